import PyProof.Rows.All
import Wide.All
import OpenK.AllK
import Wide.FinOn
import HandS.ForMost
import HandS.Zip
import KE.GoesZip
import KE.GoesMore
import KE.GoesEnum
import HandS.Conv
import HandS.Wide
import HandS.More
import HandS.SortRule
import HandS.IterVal
import PyProof.Rows.SetFrom
import HandS.IsInst
import HandS.ExcCtx
import HandS.RaiseMore
import PyProof.ReprRoads
import PyProof.ReprBulk
import PyProof.Rows.StrMul
import KE.KxIndex
import PyProof.FitsInt
import PyProof.Rows.ReprShort
import HandS.TupAny
import HandS.Strs
import HandS.Sort
import HandS.HotCalls
import HandS.ExcInit
import HandS.ExcField
import KE.KExcIs
import KE.KTryMore
import HandS.Style
import PyProof.P3Eq
import HandS.ExcIs
import PyProof.Rows.StrJoinRep
import HandS.ReCall
import HandS.OwnEq
import HandS.NoneIn
import PyProof.ListNew
import PyProof.WalksMore
import HandS.Property
import HandS.TupMul
import HandS.Rev
import HandS.ExcOwn
import HandS.Lambda
import HandS.EndTab
import KE.KNestM
import PyProof.EqKinds
import KE.KEqDict
import HandS.ExcValue
import PyProof.NeKinds
import HandS.Small
import HandS.CallLocal
import PySem.Challenge.RW_pupilpairs_k28_whole_rounds_add_up
import KE.DataCmp
import HandS.SortInts
set_option Elab.async false
set_option maxRecDepth 100000
set_option maxHeartbeats 2000000
namespace Zst
open PySem PySem.Spec PyProof.Rows L2

/-- what a zip of the text x and the tuple at b yields -/
def ItzS (K : PySem.W.Frag) (x : Str) (b : Addr) : It :=
  ⟨fun i H => ∃ (ys : List V) (c : Nat) (y : V), SqT K H b ys ∧ x.cps[i]? = some c ∧ ys[i]? = some y,
    fun i H v H' => ∃ (T : Addr) (c : Nat) (y : V), v = .ref T ∧ H T = none ∧ H' = upd H T (.tup [.str ⟨#[c]⟩, y]) ∧ x.cps[i]? = some c ∧ ∀ ys, SqT K H b ys → ys[i]? = some y,
    fun i H => ∃ ys : List V, SqT K H b ys ∧ ((x.cps.size = i ∧ i ≤ ys.length) ∨ (ys.length = i ∧ i ≤ x.cps.size))⟩

def tnS (z TI TO i1 i2 b : Addr) (x : Str) (t : Tok) (i : Nat) (h : Heap) : Prop :=
  IsZip h z TI TO .none ∧ IsTupOf2 h TI (.ref i1) (.ref i2) ∧ (∃ u v, IsTupOf2 h TO u v) ∧ h.IsStrIter i1 (strIterType x) x t i ∧ h.IsTupleIter i2 b i

theorem turnS {P : Program} {w : World} {K : PySem.W.Frag} {elts : List Expr} {kk : Nat} {tpos : Pos} {z TI TO i1 i2 b : Addr} {x : Str} {t : Tok} (D : ZipSep2 z TI TO i1 i2 [i1] [i2, b]) (hbi : b ≠ i2) :
    Turn P w K (.Tuple elts kk tpos) (ItzS K x b) [z, TI, TO, i1, i2] z (tnS z TI TO i1 i2 b x t) where
  mem := by simp
  obj := by
    rintro i h ⟨g1, g2, ⟨u, v, g3⟩, ⟨o4, g4, _, d4⟩, ⟨o5, g5, _, d5⟩⟩ c hc
    have hc' : c = z ∨ c = TI ∨ c = TO ∨ c = i1 ∨ c = i2 := by simpa using hc
    rcases hc' with rfl | rfl | rfl | rfl | rfl
    · exact ⟨_, g1, fun _ q => nomatch q⟩
    · exact ⟨_, g2, fun _ q => nomatch q⟩
    · exact ⟨_, g3, fun _ q => nomatch q⟩
    · exact ⟨_, g4, fun _ q => by rw [d4] at q; cases q⟩
    · exact ⟨_, g5, fun _ q => by rw [d5] at q; cases q⟩
  keep := by
    rintro i h h' ⟨g1, g2, ⟨u, v, g3⟩, ⟨o4, g4, r4⟩, g5⟩ k
    exact ⟨k z (by simp) _ g1, k TI (by simp) _ g2, ⟨u, v, k TO (by simp) _ g3⟩, ⟨o4, k i1 (by simp) _ g4, r4⟩, g5.at fun o q => k i2 (by simp) o q⟩
  item := by
    intro X hP hw hK hc i pins s σ H E I hf st hg
    subst hP hw hK
    obtain ⟨g1, g2, ⟨u, v, g3⟩, g4, g5⟩ := st
    obtain ⟨ys, c, y, hq, hcx, hy⟩ := hg
    obtain ⟨its, rv, p, _⟩ := I.tuple hq
    have hd : X.A.handled = none := I.ok.hd hc
    have hi1 : i < x.cps.size := (Array.getElem?_eq_some_iff.mp hcx).1
    have hi2 : i < its.toArray.size := by
      have q1 := (List.getElem?_eq_some_iff.mp hy).1
      have q2 := rv.length
      simp
      omega
    have D1 := Draws.text (prog := X.prog) (w := X.w) (A := X.A.in1) hd i1 x t
    have D2 := Draws.tuple (prog := X.prog) (w := X.w) (A := X.A.in1) hd i2 b hbi its.toArray
    refine wpAny_pyNext_zipD2_item D D1 D2 g1 g2 g3 g4 ⟨g5, p⟩ hi1 hi2 fun x1 x2 h' tk e1 e2 b1 b2 d1 d2 b5 b6 b7 => ?_
    have zlt : z < s.heap.objs.size := Heap.lt_size g1
    refine ⟨_, rfl, wpAny_letOwnedTupleGo_zip (s := { s with heap := h', toks := tk }) b1 fun h'' c1 sb => ?_⟩
    obtain ⟨cc, tt, hcc, rfl⟩ := e1
    have ecc : cc = c := Option.some.inj (hcc.symm.trans hcx)
    subst ecc
    obtain ⟨u2, hu2, ru2⟩ := rv.get hy
    have eu : x2 = u2 := by
      have q : its.toArray[i]? = some x2 := e2
      rw [List.getElem?_toArray, hu2] at q
      exact (Option.some.inj q).symm
    subst eu
    have hT : h''.get? s.heap.objs.size = some { cls := .type "tuple", data := .seq #[Value.str ⟨#[cc]⟩ tt, x2] } := (sb.2 _ (Nat.ne_of_gt zlt)).trans b5
    have new : ObjOk X.prog X.w (upd H s.heap.objs.size (.tup [.str ⟨#[cc]⟩, y])) h'' s.heap.objs.size (.tup [.str ⟨#[cc]⟩, y]) :=
      ⟨by show 2 ≤ sizeLine; decide, [Value.str ⟨#[cc]⟩ tt, x2], .cons ⟨tt, rfl⟩ (.cons ru2 .nil), ⟨_, hT, rfl, _, rfl⟩⟩
    have keepAll : ∀ a o, a ≠ z → a ≠ TO → a ≠ i1 → a ≠ i2 → s.heap.get? a = some o → h''.get? a = some o := fun a o n1 n2 n3 n4 q => (sb.2 a n1).trans (b7 a o n1 n2 n3 n4 q)
    have I1 : Inv X pins σ (upd H s.heap.objs.size (.tup [.str ⟨#[cc]⟩, y])) { s with heap := h'', toks := tk } :=
      I.turnedNew (t' := tk) (ch := [z, TI, TO, i1, i2]) (fun a o ha q => keepAll a o (fun q' => ha (by simp [q'])) (fun q' => ha (by simp [q'])) (fun q' => ha (by simp [q'])) (fun q' => ha (by simp [q'])) q) hf (Nat.le_refl _) new
    have d2' := d2.1
    refine ⟨.ref s.heap.objs.size, _, I1, rfl, ⟨_, cc, y, rfl, I.hok.fresh (Nat.le_refl _), rfl, hcx, fun l hl => by rw [I.tuple_inj hl hq]; exact hy⟩, ⟨c1, ?_, ⟨_, _, (sb.2 _ D.TOz).trans b2⟩, ?_, ?_⟩, fun a ha => ?_⟩
    · exact keepAll TI _ D.TIz D.TITO D.TIi1 D.TIi2 g2
    · obtain ⟨o4, q4, r4⟩ := d1
      exact ⟨o4, (sb.2 _ D.zi1.symm).trans q4, r4⟩
    · exact d2'.at fun o q => (sb.2 _ D.zi2.symm).trans q
    · have alt : a < s.heap.objs.size := by
        have ha' : a = z ∨ a = TI ∨ a = TO ∨ a = i1 ∨ a = i2 := by simpa using ha
        rcases ha' with rfl | rfl | rfl | rfl | rfl
        · exact zlt
        · exact Heap.lt_size g2
        · exact Heap.lt_size g3
        · obtain ⟨_, q, _⟩ := g4; exact Heap.lt_size q
        · obtain ⟨_, q, _⟩ := g5; exact Heap.lt_size q
      rw [upd_ne (Nat.ne_of_lt alt)]
      exact (hf a ha).1
  done := by
    intro X hP hw hK hc i pins s σ H E I hf st hg
    subst hP hw hK
    obtain ⟨g1, g2, ⟨u, v, g3⟩, g4, g5⟩ := st
    obtain ⟨ys, hq, hend⟩ := hg
    obtain ⟨its, rv, p, _⟩ := I.tuple hq
    have hd : X.A.handled = none := I.ok.hd hc
    have l2 := rv.length
    have D1 := Draws.text (prog := X.prog) (w := X.w) (A := X.A.in1) hd i1 x t
    have D2 := Draws.tuple (prog := X.prog) (w := X.w) (A := X.A.in1) hd i2 b hbi its.toArray
    have sz : its.toArray.size = ys.length := by simp [l2]
    refine wpAny_pyNext_zipD2_end D D1 D2 g1 g2 g3 g4 ⟨g5, p⟩ (by omega) (by omega) (by omega) fun h' tk hk => ⟨rfl, ?_⟩
    exact I.turnedL (t' := tk) (ch := [z, TI, TO, i1, i2]) (fun a o ha q => hk a o (fun q' => ha (by simp [q'])) (fun q' => ha (by simp [q'])) (fun q' => ha (by simp [q'])) (fun q' => ha (by simp [q'])) q) hf
  self := fun A i s Q E st h => wpAny_pyIter_zip st.1 h

def iZipS (K : PySem.W.Frag) (ta : TA) : TI := fun σ H R => ta σ H fun vs H1 => ∃ (x : Str) (b : Addr) (ys : List V), vs = [.str x, .ref b] ∧ SqT K H1 b ys ∧ R (ItzS K x b) H1

theorem pi_zipS {X : Cx} {e e2 : Expr} {ta : TA} {p pos tpos : Pos} {elts : List Expr} {kk : Nat} (hg : Gl X "zip") (hm : X.mg "zip" = none) (ha : PA X [e, e2] ta)
    (hs : starEach [e, e2] X.env = (false, eval e X.env) :: starEach [e2] X.env := by rfl) (hpl : (backTo pos (starEach [e2] X.env)).any (·.1) = false := by rfl) :
    PI X (.Tuple elts kk tpos) (.Call (.Name "zip" p) [e, e2] [] pos) (iZipS X.K ta) := by
  constructor
  intro pins s σ H R I h
  refine Call_ (ld_blt I hg hm PyProof.Rows.boot_zip (PyProof.Rows.callWith_type1 (thn (ha.run pos pins s σ H _ I h) ?_) hs hpl))
  rintro us s1 ⟨vs, H1, I1, r1, x, b, ys, rfl, hq, q⟩
  match us, r1 with
  | _, .cons (b := u1) ⟨t, e1⟩ (.cons (b := u2) e2 .nil) =>
    subst e1
    have e2' : u2 = Value.ref b := e2
    subst e2'
    obtain ⟨its, rv, p1, _⟩ := I1.tuple hq
    have p1' : s1.heap.IsTuple b its.toArray := p1
    have blt : b < s1.heap.objs.size := by
      obtain ⟨_, q1, _⟩ := id p1
      exact Heap.lt_size q1
    refine zip_begins2 (begins_text x t) (begins_tuple b its.toArray) trivial p1' fun h' c1 c2 c3 c4 c5 hsz hk => wpAny_pyIter_zip c1 ?_
    have I2 : Inv X pins σ H1 { s1 with heap := h' } := I1.kept (t' := s1.toks) hk
    have D : ZipSep2 (s1.heap.objs.size + 4) (s1.heap.objs.size + 2) (s1.heap.objs.size + 3) s1.heap.objs.size (s1.heap.objs.size + 1) [s1.heap.objs.size] [s1.heap.objs.size + 1, b] :=
      zip_sep2 (fp1 := []) (fp2 := [b]) (fun c hc => nomatch hc) (fun c hc => by rw [List.mem_singleton.mp hc]; exact blt)
    refine ⟨s1.heap.objs.size + 4, [s1.heap.objs.size + 4, s1.heap.objs.size + 2, s1.heap.objs.size + 3, s1.heap.objs.size, s1.heap.objs.size + 1], _, _, H1, rfl, I2, turnS (x := x) (t := t) D (Nat.ne_of_lt (Nat.lt_succ_of_lt blt)), ⟨c1, c2, ⟨_, _, c3⟩, ⟨_, c4, rfl, rfl⟩, ⟨_, c5, rfl, rfl⟩⟩, fun c hc => ?_, q⟩
    have hc' : c = s1.heap.objs.size + 4 ∨ c = s1.heap.objs.size + 2 ∨ c = s1.heap.objs.size + 3 ∨ c = s1.heap.objs.size ∨ c = s1.heap.objs.size + 1 := by simpa using hc
    have hle : s1.heap.objs.size ≤ c := by
      rcases hc' with e | e | e | e | e
      all_goals first | exact e ▸ Nat.le_add_right _ _ | exact e ▸ Nat.le_refl _
    exact I1.fpOk hle (I1.hok.fresh hle)
end Zst

set_option Elab.async false
set_option maxRecDepth 100000
set_option maxHeartbeats 2000000
set_option linter.all false
/-! symbolic execution over the hand layer: what stays (Ex), and one rule a reading -/
namespace Sx
open PySem PySem.Spec PyProof.Rows L2

/-- not the four cells of a bag -/
def NB (o : HO) : Prop := ∀ x y z c, o ≠ .lst [.int x, .int y, .int z, .ref c]
theorem NB.tup {xs : List V} : NB (.tup xs) := fun _ _ _ _ h => nomatch h
theorem NB.len {xs : List V} (h : xs.length ≠ 4) : NB (.lst xs) := fun _ _ _ _ e => h (by injection e with e; rw [e]; rfl)
theorem NB.at0 {v : V} {xs : List V} (h : ∀ i, v ≠ .int i) : NB (.lst (v :: xs)) := fun _ _ _ _ e => by
  injection e with e
  exact h _ (List.cons.inj e).1
theorem NB.at3 {a b c v : V} {xs : List V} (h : ∀ i, v ≠ .ref i) : NB (.lst (a :: b :: c :: v :: xs)) := fun _ _ _ _ e => by
  injection e with e
  exact h _ (List.cons.inj (List.cons.inj (List.cons.inj (List.cons.inj e).2).2).2).1
theorem NB.ints {ns : List Int} : NB (.lst (ns.map V.int)) := fun x y z c e => by
  injection e with e
  have h := congrArg (fun l : List V => l[3]?) e
  simp only [List.getElem?_map] at h
  cases q : ns[3]? with
  | none => rw [q] at h; cases h
  | some n => rw [q] at h; cases h
theorem NB.refs {l : List V} (h : ∀ v ∈ l, ∃ a, v = .ref a) : NB (.lst l) := fun x y z c e => by
  injection e with e
  obtain ⟨a, q⟩ := h (.int x) (by rw [e]; simp)
  cases q
theorem NB.frz {o : Obj} {u : HO} : NB (.frz o u) := fun _ _ _ _ h => nomatch h
theorem NB.ins {C dx : Addr} {fs : List (Str × V)} : NB (.ins C dx fs) := fun _ _ _ _ h => nomatch h
theorem NB.own {x : Addr} : NB (.own x) := fun _ _ _ _ h => nomatch h

structure BagC (b c : Addr) (H : Hp) : Prop where
  ex : ∃ (x y z : Int) (ns : List Int), H b = some (.lst [.int x, .int y, .int z, .ref c]) ∧ H c = some (.lst (ns.map V.int)) ∧ 0 ≤ x ∧ 0 ≤ y ∧ y < 2147483647 ∧ 0 ≤ z
def Bag (b : Addr) (H : Hp) : Prop := ∃ c, BagC b c H
/-- all but bags stands as it stood, bags are bags -/
structure Ex (H H' : Hp) : Prop where
  kp : ∀ a o, H a = some o → NB o → H' a = some o
  bg : ∀ b c, BagC b c H → BagC b c H'
section
variable {H H' H1 H2 : Hp} {p a b c l : Addr} {o u : HO}
theorem Ex.refl (H : Hp) : Ex H H := ⟨fun _ _ h _ => h, fun _ _ h => h⟩
theorem Ex.trans (e : Ex H H1) (f : Ex H1 H2) : Ex H H2 := ⟨fun a o h n => f.kp a o (e.kp a o h n) n, fun b c h => f.bg b c (e.bg b c h)⟩
theorem Ex.bag (e : Ex H H1) (h : Bag b H) : Bag b H1 := let ⟨c, q⟩ := h; ⟨c, e.bg b c q⟩
theorem Ex.new (h : H p = none) : Ex H (upd H p o) := by
  have all : ∀ a o', H a = some o' → upd H p o a = some o' := fun a o' e => by rw [upd_ne (ne_of_none e h)]; exact e
  exact ⟨fun a o' e _ => all a o' e, fun b c ⟨x, y, z, ns, e1, e2, r⟩ => ⟨x, y, z, ns, all _ _ e1, all _ _ e2, r⟩⟩
theorem Ex.mut (e : Ex H H1) (h : H l = none) : Ex H (upd H1 l o) := by
  refine ⟨fun a o' q n => ?_, fun b c q => ?_⟩
  · rw [upd_ne (ne_of_none q h)]
    exact e.kp a o' q n
  · obtain ⟨x0, y0, z0, ns0, k1, k2, _⟩ := id q
    obtain ⟨x, y, z, ns, e1, e2, r⟩ := e.bg b c q
    exact ⟨x, y, z, ns, by rw [upd_ne (ne_of_none k1 h)]; exact e1, by rw [upd_ne (ne_of_none k2 h)]; exact e2, r⟩
theorem Ex.fresh (e : Ex H H1) (h : H1 a = none) (n : NB o) : H a ≠ some o := fun q => by
  rw [e.kp a o q n] at h
  cases h
/-! ### one rule a reading -/
variable {K : PySem.W.Frag} {σ : L2.St} {Q : VK} {v w : V} {D : Ends} {t u : TT} {ta tb te : TE} {A B : Prop}
theorem x_var {i : Nat} (hx : σ[i]? = some (some v)) (k : Q v H) : tVar i σ H Q := ⟨v, hx, k⟩
theorem x_c (k : Q v H) : tC v σ H Q := k
theorem x_op {r : R2} (k : ta σ H fun x H1 => tb σ H1 fun y H2 => r x y H2 Q) : tOp r ta tb σ H Q := k
theorem x_un {r : V → Hp → VK → Prop} (k : ta σ H fun x H1 => r x H1 Q) : tUn r ta σ H Q := k
theorem x_I0 {g : Int → Int → V} {i j : Int} (k : Q (g i j) H) : rI0 g (.int i) (.int j) H Q := ⟨i, j, rfl, rfl, k⟩
theorem x_I {C : Int → Int → Prop} {g : Int → Int → V} {i j : Int} (c : C i j) (k : Q (g i j) H) : rI C g (.int i) (.int j) H Q := ⟨i, j, rfl, rfl, c, k⟩
theorem x_U {g : Int → V} {i : Int} (k : Q (g i) H) : rU g (.int i) H Q := ⟨i, rfl, k⟩
theorem x_EqI {i j : Int} (k : Q (.bl (decide (i = j))) H) : rEq (.int i) (.int j) H Q := ⟨rfl, by
  rw [show decide ((V.int i) = .int j) = decide (i = j) from decide_eq_decide.mpr ⟨fun h => V.int.inj h, fun h => by rw [h]⟩]; exact k⟩
theorem x_NeI {i j : Int} (k : Q (.bl (!decide (i = j))) H) : rNe (.int i) (.int j) H Q := ⟨rfl, by
  rw [show decide ((V.int i) = .int j) = decide (i = j) from decide_eq_decide.mpr ⟨fun h => V.int.inj h, fun h => by rw [h]⟩]; exact k⟩
theorem x_EqS {i j : Str} (k : Q (.bl (decide (i = j))) H) : rEq (.str i) (.str j) H Q := ⟨rfl, by
  rw [show decide ((V.str i) = .str j) = decide (i = j) from decide_eq_decide.mpr ⟨fun h => V.str.inj h, fun h => by rw [h]⟩]; exact k⟩
theorem x_NeS {i j : Str} (k : Q (.bl (!decide (i = j))) H) : rNe (.str i) (.str j) H Q := ⟨rfl, by
  rw [show decide ((V.str i) = .str j) = decide (i = j) from decide_eq_decide.mpr ⟨fun h => V.str.inj h, fun h => by rw [h]⟩]; exact k⟩
theorem x_EqD {d e : PyData} (h1 : Dp K H v d) (h2 : Dp K H w e) (s1 : SeqAt.shaped d = true) (s2 : SeqAt.shaped e = true) (k : Q (.bl (PyData.eqv d e)) H) : rEqD K v w H Q := ⟨d, e, h1, h2, s1, s2, k⟩
theorem x_NeD {d e : PyData} (h1 : Dp K H v d) (h2 : Dp K H w e) (s1 : SeqAt.shaped d = true) (s2 : SeqAt.shaped e = true) (k : Q (.bl (!PyData.eqv d e)) H) : rNeD K v w H Q := ⟨d, e, h1, h2, s1, s2, k⟩
theorem x_chain {r r' : R2} {tc : TE} (k : ta σ H fun x H1 => tb σ H1 fun y H2 => r x y H2 fun z H3 => ∃ k, z = .bl k ∧ (if k = true then tc σ H3 fun z' H4 => r' y z' H4 Q else Q (.bl false) H3)) : tChain r r' ta tb tc σ H Q := k
-- lists, tuples
theorem x_ixL {xs : List V} {i : Int} (h : H p = some (.lst xs)) (hi : atI xs i = some v) (k : Q v H) : rIxL K (.ref p) (.int i) H Q := ⟨p, xs, i, v, rfl, rfl, SqL.of h, hi, k⟩
theorem x_ixT {xs : List V} {i : Int} (h : H p = some (.tup xs)) (hi : atI xs i = some v) (k : Q v H) : rIxT K (.ref p) (.int i) H Q := ⟨p, xs, i, v, rfl, rfl, SqT.of h, hi, k⟩
/-- a new object -/
def LenNew (xs : List V) (o : HO) (H : Hp) (Q : VK) : Prop := xs.length ≤ sizeLine ∧ ∀ p, H p = none → Q (.ref p) (upd H p o)
def JustNew (o : HO) (H : Hp) (Q : VK) : Prop := ∀ p, H p = none → Q (.ref p) (upd H p o)
theorem x_lenNew {xs : List V} (hl : xs.length ≤ sizeLine) (k : ∀ p H1, Ex H H1 → H p = none → H1 p = some o → Q (.ref p) H1) : LenNew xs o H Q := ⟨hl, fun p hp => k p _ (Ex.new hp) hp upd_same⟩
theorem x_new (k : ∀ p H1, Ex H H1 → H p = none → H1 p = some o → Q (.ref p) H1) : JustNew o H Q := fun p hp => k p _ (Ex.new hp) hp upd_same
theorem x_tup {a : TA} (k : a σ H fun xs H1 => LenNew xs (.tup xs) H1 Q) : tTup a σ H Q := k
theorem x_lst {a : TA} (k : a σ H fun xs H1 => LenNew xs (.lst xs) H1 Q) : tLst a σ H Q := k
theorem x_sl {r : V → Option Int → Option Int → Hp → VK → Prop} {tl th : TO} (k : ta σ H fun x H1 => tl σ H1 fun l H2 => th σ H2 fun u H3 => r x l u H3 Q) : tSl r ta tl th σ H Q := k
theorem x_noPart {q : Option Int → Hp → Prop} (k : q none H) : tNoPart σ H q := k
theorem x_part {q : Option Int → Hp → Prop} (k : ta σ H fun x H1 => ∃ i, x = .int i ∧ q (some i) H1) : tPart ta σ H q := k
theorem x_ex_int {P : Int → Prop} {i : Int} (k : P i) : ∃ j, V.int i = .int j ∧ P j := ⟨i, rfl, k⟩
theorem x_slL {xs : List V} {lo hi : Option Int} (h : H a = some (.lst xs)) (k : JustNew (.lst (cutV xs lo hi)) H Q) : rSlL K (.ref a) lo hi H Q := ⟨a, xs, rfl, SqL.of h, k⟩
-- tests, statements
theorem x_ex_bl {P : Bool → Prop} {b : Bool} (k : P b) : ∃ c, V.bl b = .bl c ∧ P c := ⟨b, rfl, k⟩
theorem x_test {q : Bool → Hp → Prop} (k : ta σ H fun x H' => ∃ b, x = .bl b ∧ q b H') : tTest ta σ H q := k
theorem x_B {q : Bool → Hp → Prop} (k : ta σ H fun x H' => ∃ b, x = .bl b ∧ q b H') : tB ta σ H q := k
theorem x_and {q : Bool → Hp → Prop} (k : t σ H fun c H1 => if c = true then u σ H1 q else q false H1) : tAnd t u σ H q := k
theorem x_or {q : Bool → Hp → Prop} (k : t σ H fun c H1 => if c = true then q true H1 else u σ H1 q) : tOr t u σ H q := k
theorem x_not {q : Bool → Hp → Prop} (k : t σ H fun c H1 => q (!c) H1) : tNot t σ H q := k
theorem x_andV (k : ta σ H fun x H1 => ∃ c, x = .bl c ∧ if c = true then tb σ H1 Q else Q (.bl false) H1) : tAndV ta tb σ H Q := k
theorem x_orV (k : ta σ H fun x H1 => ∃ c, x = .bl c ∧ if c = true then Q (.bl true) H1 else tb σ H1 Q) : tOrV ta tb σ H Q := k
theorem x_notV (k : ta σ H fun x H1 => ∃ c, x = .bl c ∧ Q (.bl (!c)) H1) : tNotV ta σ H Q := k
theorem x_ifE (k : t σ H fun c H1 => if c = true then ta σ H1 Q else tb σ H1 Q) : tIf t ta tb σ H Q := k
theorem x_iteT (k : A) : if true = true then A else B := by rw [if_pos rfl]; exact k
theorem x_iteF (k : B) : if false = true then A else B := by rw [if_neg Bool.false_ne_true]; exact k
theorem x_iteD {c : Prop} [Decidable c] (k1 : c → A) (k2 : ¬ c → B) : if decide c = true then A else B := by
  by_cases h : c
  · rw [decide_eq_true h, if_pos rfl]; exact k1 h
  · rw [decide_eq_false h, if_neg Bool.false_ne_true]; exact k2 h
theorem x_iteN {c : Prop} [Decidable c] (k1 : ¬ c → A) (k2 : c → B) : if (!decide c) = true then A else B := by
  by_cases h : c
  · rw [decide_eq_true h]; exact x_iteF (k2 h)
  · rw [decide_eq_false h]; exact x_iteT (k1 h)
theorem x_iteB {c : Bool} (k1 : c = true → A) (k2 : c = false → B) : if c = true then A else B := by
  cases c with
  | true => exact x_iteT (k1 rfl)
  | false => exact x_iteF (k2 rfl)
theorem x_if {tu tw : TS} (k : t σ H fun b H1 => if b = true then tu D σ H1 else tw D σ H1) : tIfS t tu tw D σ H := k
theorem x_seq {tu tw : TS} (k : tu { D with nx := tw D } σ H) : tSeq tu tw D σ H := k
theorem x_next (k : D.nx σ H) : tNext D σ H := k
theorem x_asg {g : TG} (k : ta σ H fun x H1 => g x σ H1 D.nx) : tAsg ta g D σ H := k
theorem x_gName {i : Nat} {q : L2.St → Hp → Prop} (k : q (σ.set i (some v)) H) : gName i v σ H q := k
theorem x_gTup {n : Nat} {g : TGs} {q : L2.St → Hp → Prop} {xs : List V} (h : H p = some (.tup xs)) (hn : xs.length = n) (k : g xs σ H q) : gTup K n g (.ref p) σ H q := ⟨p, xs, rfl, SqT.of h, hn, k⟩
theorem x_gCons {g : TG} {gs : TGs} {vs : List V} {q : L2.St → Hp → Prop} (k : g v σ H fun σ' H' => gs vs σ' H' q) : gCons g gs (v :: vs) σ H q := ⟨v, vs, rfl, k⟩
theorem x_gNil {q : L2.St → Hp → Prop} (k : q σ H) : gNil [] σ H q := ⟨rfl, k⟩
theorem x_ret (k : ta σ H D.rt) : tRet ta D σ H := k
theorem x_drop (k : ta σ H fun _ H1 => D.nx σ H1) : tDrop ta D σ H := k
theorem x_par {i j : Nat} {a : TA} (k : a σ H fun vs H1 => ∃ v w, vs = [v, w] ∧ D.nx ((σ.set i (some v)).set j (some w)) H1) : tPar i j a D σ H := k
theorem x_ex_2 {P : V → V → Prop} (k : P v w) : ∃ a b, [v, w] = [a, b] ∧ P a b := ⟨v, w, rfl, k⟩
theorem x_aug {i : Nat} {ti : TIp} (hx : σ[i]? = some (some v)) (k : ta σ H fun y H1 => ti v y H1 fun z H2 => D.nx (σ.set i (some z)) H2) : tAug i ta ti D σ H := ⟨v, hx, k⟩
theorem x_ipI {f : Int → Int → Int} {i j : Int} (k : Q (.int (f i j)) H) : ipI f (.int i) (.int j) H Q := ⟨i, j, rfl, rfl, k⟩
theorem x_augS {to ti te : TE} {tget : V → V → Hp → VK → Prop} {tip : TIp} {tset : TSet} (k : to σ H fun o H1 => ti σ H1 fun i H2 => tget o i H2 fun x H3 => te σ H3 fun y H4 => tip x y H4 fun z H5 => tset o i z H5 fun H6 => D.nx σ H6) : tAugS to ti te tget tip tset D σ H := k
theorem x_gSub {to ti : TE} {s : TSet} {q : L2.St → Hp → Prop} (k : to σ H fun o H1 => ti σ H1 fun i H2 => s o i v H2 fun H3 => q σ H3) : gSub to ti s v σ H q := k
theorem x_setL {xs : List V} {i : Int} {j : Nat} {q : Hp → Prop} (h : H p = some (.lst xs)) (hi : ixN xs.length i = some j) (k : q (upd H p (.lst (xs.set j v)))) : rSetL (.ref p) (.int i) v H q := ⟨p, xs, i, j, rfl, rfl, h, hi, k⟩
theorem at_nat {xs : List V} {i : Int} (h0 : 0 ≤ i) (h : xs[i.toNat]? = some v) : atI xs i = some v := by
  have e : i = ((i.toNat : Nat) : Int) := by omega
  rw [e]
  exact atI_nat h
theorem at_map {ns : List Int} {i : Int} (h0 : 0 ≤ i) (h : i < ((ns.map V.int).length : Int)) : ∃ n, atI (ns.map V.int) i = some (.int n) := by
  rw [List.length_map] at h
  have hl : i.toNat < ns.length := by omega
  exact ⟨ns[i.toNat], at_nat h0 (by simp [hl])⟩
theorem Ex.bagTo {x0 y0 z0 x y z : Int} (hb : H b = some (.lst [.int x0, .int y0, .int z0, .ref c])) (same : ∀ a, a ≠ b → H' a = H a) (hb' : H' b = some (.lst [.int x, .int y, .int z, .ref c])) (hx : 0 ≤ x) (hy : 0 ≤ y) (hy2 : y < 2147483647) (hz : 0 ≤ z) : Ex H H' := by
  refine ⟨fun a o q n => ?_, fun b1 c1 q => ?_⟩
  · by_cases e : a = b
    · subst e
      rw [hb] at q
      exact absurd (Option.some.inj q).symm (n _ _ _ _)
    · rw [same a e]; exact q
  · obtain ⟨x1, y1, z1, ns1, k1, k2, k3⟩ := q
    have n2 : c1 ≠ b := fun e => by
      subst e
      rw [hb] at k2
      exact NB.ints _ _ _ _ (Option.some.inj k2).symm
    by_cases e : b1 = b
    · subst e
      rw [hb] at k1
      have ec : c = c1 := by
        injection k1 with k1
        injection k1 with k1
        exact V.ref.inj (List.cons.inj (List.cons.inj (List.cons.inj (List.cons.inj k1).2).2).2).1
      subst ec
      exact ⟨x, y, z, ns1, hb', by rw [same _ n2]; exact k2, hx, hy, hy2, hz⟩
    · exact ⟨x1, y1, z1, ns1, by rw [same _ e]; exact k1, by rw [same _ n2]; exact k2, k3⟩
-- calls
theorem x_cons {a : TA} {q : List V → Hp → Prop} (k : ta σ H fun x H1 => a σ H1 fun xs H2 => q (x :: xs) H2) : tCons ta a σ H q := k
theorem x_nil {q : List V → Hp → Prop} (k : q [] H) : tNil σ H q := k
theorem x_CB {r : List V → Hp → VK → Prop} {a : TA} (k : a σ H fun vs H1 => r vs H1 Q) : tCB r a σ H Q := k
/-- a promise: what it asks, what it gives -/
def Prom (pre : List V → Hp → Prop) (post : List V → V → Hp → Prop) : Sp := fun vs H Q _ => pre vs H ∧ ∀ v H1, Ex H H1 → post vs v H1 → Q v H1
-- built-ins by name
def rAbs : List V → Hp → VK → Prop := fun xs H Q => ∃ i, xs = [.int i] ∧ Q (.int (if i < 0 then -i else i)) H
def rInt : List V → Hp → VK → Prop := fun xs H Q => (∃ i, xs = [.int i] ∧ Q (.int i) H) ∨ ∃ k, xs = [.bl k] ∧ Q (.int (if k then 1 else 0)) H
def rLen (K : PySem.W.Frag) : List V → Hp → VK → Prop := fun xs H Q => ∃ p ys, xs = [.ref p] ∧ (SqL K H p ys ∨ SqT K H p ys) ∧ Q (.int ys.length) H
theorem x_abs {i : Int} (k : Q (.int (if i < 0 then -i else i)) H) : rAbs [.int i] H Q := ⟨i, rfl, k⟩
theorem x_intI {i : Int} (k : Q (.int i) H) : rInt [.int i] H Q := .inl ⟨i, rfl, k⟩
theorem x_intB {b : Bool} (k : Q (.int (if b then 1 else 0)) H) : rInt [.bl b] H Q := .inr ⟨b, rfl, k⟩
theorem x_lenL {xs : List V} (h : H p = some (.lst xs)) (k : Q (.int xs.length) H) : rLen K [.ref p] H Q := ⟨p, xs, rfl, .inl (SqL.of h), k⟩
theorem x_lenT {xs : List V} (h : H p = some (.tup xs)) (k : Q (.int xs.length) H) : rLen K [.ref p] H Q := ⟨p, xs, rfl, .inr (SqT.of h), k⟩
end
section
variable {X : Cx}
theorem c_abs : CallR X (.builtin "abs") rAbs := call_abs
theorem c_int : CallR X (.type "int") rInt := call_int1
theorem c_len : CallR X (.builtin "len") (rLen X.K) := call_len_seq
/-- xs[i] read for xs[i] op= e -/
theorem get_list : PGet X (rIxL X.K) := by
  intro pins s σ H o i ov iv Q I ro ri h
  obtain ⟨p, xs, n, z, rfl, rfl, hq, he, q⟩ := h
  cases ro
  obtain ⟨t, rfl⟩ := ri
  obtain ⟨its, r, pl, hz⟩ := I.list hq
  obtain ⟨j, h1, h2, h3, h4, h5⟩ := atI_get he
  obtain ⟨w, ew, rw'⟩ := r.get h2
  have hl := r.length
  have hn := line63
  have fin : EP X pins σ Q w s := ⟨z, H, I, rw', q⟩
  by_cases h0 : 0 ≤ n
  · have hj : n.toNat = j := by
      rw [seqIndex_of h0 h5] at h1
      exact Option.some.inj h1
    exact wpAny_getItem_list pl.isList h0 (by omega) (by rw [hj]; simpa using ew) fin
  · have hj : (n + (its.toArray.size : Int)).toNat = j := by
      rw [seqIndex_neg (by omega) h4] at h1
      rw [List.size_toArray, ← hl]
      exact Option.some.inj h1
    exact wpAny_getItem_list_neg pl.isList (by omega) (by rw [List.size_toArray]; omega) (by omega) (by rw [hj]; simpa using ew) fin
end
end Sx

set_option Elab.async false
set_option linter.all false
set_option maxRecDepth 100000
set_option maxHeartbeats 2000000
namespace Sx
open PySem PySem.Spec PyProof.Rows L2

def isI : V → Bool
  | .int _ => true
  | _ => false
def isR : V → Bool
  | .ref _ => true
  | _ => false
theorem NB.at0b {v : V} {xs : List V} (h : isI v = false) : NB (.lst (v :: xs)) := NB.at0 fun i e => by rw [e] at h; cases h
theorem NB.at3b {a b c v : V} {xs : List V} (h : isR v = false) : NB (.lst (a :: b :: c :: v :: xs)) := NB.at3 fun i e => by rw [e] at h; cases h
/-- tuples stay -/
def Tx (H H' : Hp) : Prop := ∀ a xs, H a = some (.tup xs) → H' a = some (.tup xs)
section
variable {H H' H1 H2 : Hp} {p a b c l : Addr} {o u : HO} {K : PySem.W.Frag} {σ : L2.St} {Q : VK} {v w : V} {D : Ends} {t : TT} {ta tb te : TE} {A B : Prop}
theorem Ex.tx (e : Ex H H1) : Tx H H1 := fun a xs h => e.kp a _ h NB.tup
theorem Tx.set {d : Addr} {ys : List V} (h : H d = some (.lst ys)) : Tx H (upd H d o) := fun a xs q => by
  rw [upd_ne (ne_of q h (by intro z; cases z))]
  exact q
theorem Tx.new (h : H d = none) : Tx H (upd H d o) := fun a xs q => by
  rw [upd_ne (ne_of_none q h)]
  exact q
theorem Tx.trans (e : Tx H H1) (f : Tx H1 H2) : Tx H H2 := fun a xs h => f a xs (e a xs h)

/-- a comprehension: I tells the turn and what is made so far -/
theorem lc_any {J : It} {n : Nat} {g : TG} {vs : List Nat} (I : Nat → List V → Hp → Prop) (h0 : I 0 [] H1)
    (mono : ∀ i acc H H', Tx H H' → I i acc H → I i acc H') (nb : ∀ i acc H, I i acc H → NB (.lst acc) ∧ acc.length < sizeLine)
    (go : ∀ i H', i < n → Ex H1 H' → J.go i H') (stop : ∀ H', Ex H1 H' → J.stop n H')
    (turn : ∀ i acc x H' H'', i < n → Ex H1 H' → I i acc H' → J.yld i H' x H'' → ∀ kk : Option V → Hp → Prop, (∀ y H4, Ex H' H4 → I (i + 1) (acc ++ [y]) H4 → kk (some y) H4) → (∀ H4, Ex H' H4 → I (i + 1) acc H4 → kk none H4) →
      g x (wipe σ vs) H'' fun σ2 H2 => wipe σ2 vs = wipe σ vs ∧ t σ2 H2 fun b H3 => if b = true then te σ2 H3 (fun y H4 => kk (some y) H4) else kk none H3)
    (k : ∀ p ys H2, Ex H1 H2 → H1 p = none → H2 p = some (.lst ys) → I n ys H2 → Q (.ref p) H2) :
    ∀ D, H1 D = none → ∃ W : Nat → Nat → Hp → Prop, (∃ m, W 0 m (upd H1 D (.lst []))) ∧ ∀ i m H, W i m H →
      (J.stop i H ∧ Q (.ref D) H) ∨ (J.go i H ∧ ∃ Nx : Hp → Prop, (∀ H', Nx H' → ∃ m', m' < m ∧ W (i + 1) m' H') ∧ ∀ x H', J.yld i H x H' → g x (wipe σ vs) H' fun σ2 H2 => wipe σ2 vs = wipe σ vs ∧ t σ2 H2 fun b H3 =>
        if b = true then te σ2 H3 fun y H4 => ∃ acc, H4 D = some (.lst acc) ∧ acc.length < sizeLine ∧ Nx (upd H4 D (.lst (acc ++ [y]))) else Nx H3) := by
  intro D hD
  refine ⟨fun i m H => m = n - i ∧ i ≤ n ∧ Ex H1 H ∧ ∃ acc, H D = some (.lst acc) ∧ I i acc H, ⟨n, rfl, Nat.zero_le _, Ex.new hD, [], upd_same, mono _ _ _ _ (Tx.new hD) h0⟩, ?_⟩
  rintro i m H ⟨rfl, hi, e, acc, hd, hI⟩
  by_cases hlt : i < n
  · refine .inr ⟨go i H hlt e, fun H' => i + 1 ≤ n ∧ Ex H1 H' ∧ ∃ acc, H' D = some (.lst acc) ∧ I (i + 1) acc H', fun H' q => ⟨n - (i + 1), by omega, rfl, q⟩, fun x H' y => ?_⟩
    have nbA := nb _ _ _ hI
    refine turn i acc x H H' hlt e hI y (fun o H4 => match o with
      | some y => ∃ acc, H4 D = some (.lst acc) ∧ acc.length < sizeLine ∧ (i + 1 ≤ n ∧ Ex H1 (upd H4 D (.lst (acc ++ [y]))) ∧ ∃ acc', upd H4 D (.lst (acc ++ [y])) D = some (.lst acc') ∧ I (i + 1) acc' (upd H4 D (.lst (acc ++ [y]))))
      | none => i + 1 ≤ n ∧ Ex H1 H4 ∧ ∃ acc, H4 D = some (.lst acc) ∧ I (i + 1) acc H4) (fun y H4 e4 q => ?_) (fun H4 e4 q => ?_)
    · have hd4 := e4.kp _ _ hd nbA.1
      exact ⟨acc, hd4, nbA.2, hlt, Ex.mut (e.trans e4) hD, acc ++ [y], upd_same, mono _ _ _ _ (Tx.set hd4) q⟩
    · exact ⟨hlt, e.trans e4, acc, e4.kp _ _ hd nbA.1, q⟩
  · have ei : i = n := by omega
    subst ei
    exact .inl ⟨stop H e, k D acc H e hD hd hI⟩

def LcGo (J : It) (g : TG) (t : TT) (te : TE) (vs : List Nat) (σ : L2.St) (H1 : Hp) (Q : VK) : Prop := ∀ D, H1 D = none → ∃ W : Nat → Nat → Hp → Prop, (∃ m, W 0 m (upd H1 D (.lst []))) ∧ ∀ i m H, W i m H →
      (J.stop i H ∧ Q (.ref D) H) ∨ (J.go i H ∧ ∃ Nx : Hp → Prop, (∀ H', Nx H' → ∃ m', m' < m ∧ W (i + 1) m' H') ∧ ∀ x H', J.yld i H x H' → g x (wipe σ vs) H' fun σ2 H2 => wipe σ2 vs = wipe σ vs ∧ t σ2 H2 fun b H3 =>
        if b = true then te σ2 H3 fun y H4 => ∃ acc, H4 D = some (.lst acc) ∧ acc.length < sizeLine ∧ Nx (upd H4 D (.lst (acc ++ [y]))) else Nx H3)
theorem x_lc {wi : TI} {g : TG} {vs : List Nat} (k : wi σ H fun J H1 => LcGo J g t te vs σ H1 Q) : tLc wi g t te vs σ H Q := k
def R1K (xs : List V) (H1 : Hp) (R : It → Hp → Prop) : Prop := ∃ j : Int, xs = [.int j] ∧ -(2 ^ 62) ≤ j ∧ j < 2 ^ 62 ∧ R (Itr 0 j.toNat) H1
def LK (K : PySem.W.Frag) (x : V) (H1 : Hp) (R : It → Hp → Prop) : Prop := ∃ a, x = .ref a ∧ (∃ xs, SqL K H1 a xs) ∧ R (Itl K a) H1
def ZK (K : PySem.W.Frag) (vs : List V) (H1 : Hp) (R : It → Hp → Prop) : Prop := ∃ (x : Str) (b : Addr) (ys : List V), vs = [.str x, .ref b] ∧ SqT K H1 b ys ∧ R (Zst.ItzS K x b) H1
theorem x_iR1 {a : TA} {R : It → Hp → Prop} (k : a σ H fun xs H1 => R1K xs H1 R) : iRng1 a σ H R := k
theorem x_iL {R : It → Hp → Prop} (k : ta σ H fun x H1 => LK K x H1 R) : iList K ta σ H R := k
theorem x_iZ {a : TA} {R : It → Hp → Prop} (k : a σ H fun xs H1 => ZK K xs H1 R) : Zst.iZipS K a σ H R := k
theorem x_yes {q : Bool → Hp → Prop} (k : q true H) : tYes σ H q := k

theorem lc_lst {xs : List V} {j : Nat} {vs : List Nat} (hx : H1 a = some (.lst xs)) (nbx : NB (.lst xs)) (I : Nat → List V → Hp → Prop) (h0 : I 0 [] H1) (mono : ∀ i acc H H', Tx H H' → I i acc H → I i acc H') (nb : ∀ i acc H, I i acc H → NB (.lst acc) ∧ acc.length < sizeLine)
    (hw : ∀ x, wipe ((wipe σ vs).set j (some x)) vs = wipe σ vs)
    (turn : ∀ (i : Nat) x acc H', xs[i]? = some x → Ex H1 H' → I i acc H' → ∀ kk : Option V → Hp → Prop, (∀ y H4, Ex H' H4 → I (i + 1) (acc ++ [y]) H4 → kk (some y) H4) → (∀ H4, Ex H' H4 → I (i + 1) acc H4 → kk none H4) →
      t ((wipe σ vs).set j (some x)) H' fun b H3 => if b = true then te ((wipe σ vs).set j (some x)) H3 (fun y H4 => kk (some y) H4) else kk none H3)
    (k : ∀ p ys H2, Ex H1 H2 → H1 p = none → H2 p = some (.lst ys) → I xs.length ys H2 → Q (.ref p) H2) : LK K (.ref a) H1 fun J H2 => LcGo J (gName j) t te vs σ H2 Q := by
  have hq : ∀ H', Ex H1 H' → SqL K H' a xs := fun H' e => SqL.of (e.kp _ _ hx nbx)
  refine ⟨a, rfl, ⟨xs, SqL.of hx⟩, lc_any (n := xs.length) I h0 mono nb (fun i H' hi e => ⟨xs, xs[i], hq H' e, by simp [hi]⟩) (fun H' e => ⟨xs, hq H' e, Nat.le_refl _⟩) (fun i acc x H' H'' hi e q y kk k1 k2 => ?_) k⟩
  obtain ⟨rfl, y⟩ := y
  exact ⟨hw _, turn i x acc _ (y xs (hq _ e)) e q kk k1 k2⟩
theorem lc_zip {x : Str} {ys : List V} {j1 j2 n : Nat} {vs : List Nat} (hn : (x.cps.size = n ∧ n ≤ ys.length) ∨ (ys.length = n ∧ n ≤ x.cps.size)) (hx : H1 a = some (.tup ys)) (I : Nat → List V → Hp → Prop) (h0 : I 0 [] H1) (mono : ∀ i acc H H', Tx H H' → I i acc H → I i acc H') (nb : ∀ i acc H, I i acc H → NB (.lst acc) ∧ acc.length < sizeLine)
    (hw : ∀ x y, wipe (((wipe σ vs).set j1 (some x)).set j2 (some y)) vs = wipe σ vs)
    (turn : ∀ (i : Nat) c y acc H', x.cps[i]? = some c → ys[i]? = some y → Ex H1 H' → I i acc H' → ∀ kk : Option V → Hp → Prop, (∀ y H4, Ex H' H4 → I (i + 1) (acc ++ [y]) H4 → kk (some y) H4) → (∀ H4, Ex H' H4 → I (i + 1) acc H4 → kk none H4) →
      t (((wipe σ vs).set j1 (some (.str ⟨#[c]⟩))).set j2 (some y)) H' fun b H3 => if b = true then te (((wipe σ vs).set j1 (some (.str ⟨#[c]⟩))).set j2 (some y)) H3 (fun y H4 => kk (some y) H4) else kk none H3)
    (k : ∀ p ys H2, Ex H1 H2 → H1 p = none → H2 p = some (.lst ys) → I n ys H2 → Q (.ref p) H2) : ZK K [.str x, .ref a] H1 fun J H2 => LcGo J (gTup K 2 (gCons (gName j1) (gCons (gName j2) gNil))) t te vs σ H2 Q := by
  have hq : ∀ H', Ex H1 H' → SqT K H' a ys := fun H' e => SqT.of (e.kp _ _ hx NB.tup)
  refine ⟨x, a, ys, rfl, SqT.of hx, lc_any (n := n) I h0 mono nb (fun i H' hi e => ?_) (fun H' e => ⟨ys, hq H' e, hn⟩) (fun i acc v H' H'' hi e q y kk k1 k2 => ?_) k⟩
  · have h1 : i < x.cps.size := by omega
    have h2 : i < ys.length := by omega
    exact ⟨ys, x.cps[i], ys[i], hq H' e, by simp [h1], by simp [h2]⟩
  · obtain ⟨T, c, y, rfl, hT, rfl, hc, hy⟩ := y
    have e2 : Ex H' (upd H' T (.tup [.str ⟨#[c]⟩, y])) := Ex.new hT
    refine ⟨T, _, rfl, SqT.of upd_same, rfl, _, _, rfl, _, _, rfl, rfl, hw _ _, ?_⟩
    exact turn i c y acc _ hc (hy ys (hq _ e)) (e.trans e2) (mono _ _ _ _ e2.tx q) kk (fun y H4 f g => k1 y H4 (e2.trans f) g) (fun H4 f g => k2 H4 (e2.trans f) g)

/-! ### dicts of the module -/
def rNID (K : PySem.W.Frag) (d : Addr) : R2 := fun x y H Q => ∃ (z : Str) (r : Option Value), x = .str z ∧ y = .ref d ∧ PySem.W.nsIn K d z = some r ∧ Q (.bl (!r.isSome)) H
def rIID (K : PySem.W.Frag) (d : Addr) : R2 := fun x y H Q => ∃ (z : Str) (r : Option Value), x = .str z ∧ y = .ref d ∧ PySem.W.nsIn K d z = some r ∧ Q (.bl r.isSome) H
theorem kdct_of {w : World} {d : Addr} {es : Array DictEntry} {n : Nat} {z : Str} {u : Value} (D : KDict K w d es n) (h : PySem.W.nsIn K d z = some (some u)) (r : RelV v u) : KDct K w d z v := ⟨es, n, u, D.at_, D.lit, h, r⟩
theorem x_NIDt {d : Addr} {z : Str} (h : PySem.W.nsIn K d z = some none) (k : Q (.bl true) H) : rNID K d (.str z) (.ref d) H Q := ⟨z, none, rfl, rfl, h, k⟩
theorem x_NIDf {d : Addr} {z : Str} {u : Value} (h : PySem.W.nsIn K d z = some (some u)) (k : Q (.bl false) H) : rNID K d (.str z) (.ref d) H Q := ⟨z, some u, rfl, rfl, h, k⟩
theorem x_IIDt {d : Addr} {z : Str} {u : Value} (h : PySem.W.nsIn K d z = some (some u)) (k : Q (.bl true) H) : rIID K d (.str z) (.ref d) H Q := ⟨z, some u, rfl, rfl, h, k⟩
theorem x_IIDf {d : Addr} {z : Str} (h : PySem.W.nsIn K d z = some none) (k : Q (.bl false) H) : rIID K d (.str z) (.ref d) H Q := ⟨z, none, rfl, rfl, h, k⟩
theorem x_ixDs {w : World} {d : Addr} {z y : Str} {es : Array DictEntry} {n : Nat} (D : KDict K w d es n) (h : ∃ t, PySem.W.nsIn K d z = some (some (.str y t))) (k : Q (.str y) H) : rIxD K w (.ref d) (.str z) H Q := by
  obtain ⟨t, h⟩ := h
  exact ⟨d, z, .str y, rfl, rfl, kdct_of (v := .str y) D h ⟨t, rfl⟩, k⟩
/-! ### in -/
def rInS : R2 := fun x y H Q => ∃ i j, x = .str i ∧ y = .str j ∧ Q (.bl (!(Builtin.Str.occurrences j i 0 j.length 1).isEmpty)) H
theorem x_InSt {i j : Str} (h : (Builtin.Str.occurrences j i 0 j.length 1).isEmpty = false) (k : Q (.bl true) H) : rInS (.str i) (.str j) H Q := ⟨i, j, rfl, rfl, by rw [h]; exact k⟩
theorem x_InSf {i j : Str} (h : (Builtin.Str.occurrences j i 0 j.length 1).isEmpty = true) (k : Q (.bl false) H) : rInS (.str i) (.str j) H Q := ⟨i, j, rfl, rfl, by rw [h]; exact k⟩
theorem x_EqSt {i j : Str} (h : i = j) (k : Q (.bl true) H) : rEq (.str i) (.str j) H Q := ⟨rfl, by rw [decide_eq_true (by rw [h])]; exact k⟩
theorem x_EqSf {i j : Str} (h : i ≠ j) (k : Q (.bl false) H) : rEq (.str i) (.str j) H Q := ⟨rfl, by rw [decide_eq_false (fun e => h (V.str.inj e))]; exact k⟩
theorem x_NeSt {i j : Str} (h : i ≠ j) (k : Q (.bl true) H) : rNe (.str i) (.str j) H Q := ⟨rfl, by rw [decide_eq_false (fun e => h (V.str.inj e))]; exact k⟩
theorem x_NeSf {i j : Str} (h : i = j) (k : Q (.bl false) H) : rNe (.str i) (.str j) H Q := ⟨rfl, by rw [decide_eq_true (by rw [h])]; exact k⟩
theorem inV_ints {n : Int} {ns : List Int} : inV (.int n) (ns.map V.int) = decide (n ∈ ns) := by
  unfold inV
  rw [List.any_map]
  rw [Bool.eq_iff_iff, List.any_eq_true, decide_eq_true_eq]
  constructor
  · rintro ⟨m, h1, h2⟩
    have e : m = n := by simpa [eqV] using h2
    exact e ▸ h1
  · intro h
    exact ⟨n, h, by simp [eqV]⟩
theorem flat_ints {ns : List Int} : (ns.map V.int).all flatV = true := by
  rw [List.all_map]
  exact List.all_eq_true.mpr fun _ _ => rfl
theorem x_notInI {n : Int} {ns : List Int} (h : H p = some (.lst (ns.map V.int))) (k : Q (.bl (!decide (n ∈ ns))) H) : rIn K true (.int n) (.ref p) H Q :=
  ⟨p, _, rfl, .inl (SqL.of h), rfl, flat_ints, by rw [if_pos rfl, inV_ints]; exact k⟩
theorem x_inTt {xs : List V} (h : H p = some (.tup xs)) (hv : flatV v = true) (ha : xs.all flatV = true) (e : inV v xs = true) (k : Q (.bl true) H) : rIn K false v (.ref p) H Q := ⟨p, _, rfl, .inr (SqT.of h), hv, ha, by rw [if_neg Bool.false_ne_true, e]; exact k⟩
theorem x_inTf {xs : List V} (h : H p = some (.tup xs)) (hv : flatV v = true) (ha : xs.all flatV = true) (e : inV v xs = false) (k : Q (.bl false) H) : rIn K false v (.ref p) H Q := ⟨p, _, rfl, .inr (SqT.of h), hv, ha, by rw [if_neg Bool.false_ne_true, e]; exact k⟩
/-! ### tuples, lists -/
theorem x_slT {xs : List V} {lo hi : Option Int} (h : H a = some (.tup xs)) (hw : ¬ (HT.sIx xs.length 0 lo = 0 ∧ HT.sIx xs.length xs.length hi = xs.length)) (k : JustNew (.tup (cutV xs lo hi)) H Q) : rSlT K (.ref a) lo hi H Q := ⟨a, xs, rfl, SqT.of h, hw, k⟩
theorem x_catT {xs ys : List V} (h : H a = some (.tup xs)) (h' : H b = some (.tup ys)) (n1 : xs ≠ []) (n2 : ys ≠ []) (l : xs.length + ys.length ≤ sizeLine) (k : JustNew (.tup (xs ++ ys)) H Q) : rCatT K (.ref a) (.ref b) H Q := ⟨a, b, xs, ys, rfl, rfl, SqT.of h, SqT.of h', n1, l, fun e => absurd e n2, fun _ => k⟩
theorem x_cat {xs ys : List V} (h : H a = some (.lst xs)) (h' : H b = some (.lst ys)) (l : xs.length + ys.length ≤ sizeLine) (k : JustNew (.lst (xs ++ ys)) H Q) : rCat (.ref a) (.ref b) H Q := ⟨a, b, xs, ys, rfl, rfl, h, h', l, k⟩
def SortK (ns : List Int) (H : Hp) (Q : VK) : Prop := ∀ (ns' : List Int) (p : Addr), ns'.Perm ns → ns'.Pairwise (· ≤ ·) → H p = none → Q (.ref p) (upd H p (.lst (ns'.map V.int)))
theorem x_sorted {ns : List Int} (h : H a = some (.lst (ns.map V.int))) (l : ns.length < 64) (k : ∀ (ns' : List Int) (p : Addr) (H1 : Hp), ns'.Perm ns → ns'.Pairwise (· ≤ ·) → Ex H H1 → H p = none → H1 p = some (.lst (ns'.map V.int)) → Q (.ref p) H1) : rSorted K [.ref a] H Q :=
  ⟨a, ns, rfl, SqL.of h, l, fun ns' p h1 h2 hp => k ns' p _ h1 h2 (Ex.new hp) hp upd_same⟩
/-! ### loops -/
def ForGo (J : It) (g : TG) (tb : TS) (D : Ends) (σ : L2.St) (H1 : Hp) : Prop := ∃ W : Nat → Nat → L2.St → Hp → Prop, (∃ m, W 0 m σ H1) ∧ ∀ i m σ H, W i m σ H →
      (J.stop i H ∧ D.nx σ H) ∨ (J.go i H ∧ ∃ N : L2.St → Hp → Prop, (∀ σ' H', N σ' H' → ∃ m', m' < m ∧ W (i + 1) m' σ' H') ∧ ∀ v H', J.yld i H v H' → g v σ H' fun σ2 H2 => tb { D with nx := N, ct := N, bk := D.nx } σ2 H2)
theorem x_for {wi : TI} {g : TG} {tb : TS} (k : wi σ H fun J H1 => ForGo J g tb D σ H1) : tFor wi g tb D σ H := k
theorem for_rng {m : Int} {j : Nat} {tb : TS} (hm : m < 2 ^ 62) (hm0 : -(2 ^ 62) ≤ m) (Pv : Nat → L2.St → Hp → Prop) (h0 : Pv 0 σ H1)
    (hs : ∀ (i : Nat) σ H, (i : Int) < m → Pv i σ H → tb { D with nx := Pv (i + 1), ct := Pv (i + 1), bk := D.nx } (σ.set j (some (.int (i : Int)))) H) (hd : ∀ σ H, Pv m.toNat σ H → D.nx σ H) : R1K [.int m] H1 fun J H2 => ForGo J (gName j) tb D σ H2 := by
  refine ⟨m, rfl, hm0, hm, for_range Pv h0 (fun i σ H hi q => ?_) hd⟩
  have e0 : (0 : Int) + (i : Int) = (i : Int) := Int.zero_add _
  show tb { D with nx := Pv (i + 1), ct := Pv (i + 1), bk := D.nx } (σ.set j (some (.int ((0 : Int) + (i : Int))))) H
  rw [e0]
  exact hs i σ H (by omega) q
theorem for_lst {xs : List V} {j : Nat} {tb : TS} (hx : H1 a = some (.lst xs)) (Pv : Nat → L2.St → Hp → Prop) (h0 : Pv 0 σ H1) (hl : ∀ i σ H, i ≤ xs.length → Pv i σ H → H a = some (.lst xs))
    (hs : ∀ (i : Nat) x σ H, xs[i]? = some x → Pv i σ H → tb { D with nx := Pv (i + 1), ct := Pv (i + 1), bk := D.nx } (σ.set j (some x)) H) (hd : ∀ σ H, Pv xs.length σ H → D.nx σ H) : LK K (.ref a) H1 fun J H2 => ForGo J (gName j) tb D σ H2 :=
  ⟨a, rfl, ⟨xs, SqL.of hx⟩, for_list Pv h0 (fun i σ H hi q => SqL.of (hl i σ H hi q)) (fun i x σ H h q => hs i x σ H h q) hd⟩
/-! ### methods -/
theorem x_bm {T : String} {r : V → List V → Hp → VK → Prop} {a : TA} (k : ta σ H fun x H1 => tyV K T x H1 ∧ a σ H1 fun xs H2 => r x xs H2 Q) : tBM K T r ta a σ H Q := k
theorem tyL {xs : List V} (h : H p = some (.lst xs)) : tyV K "list" (.ref p) H := .inl ⟨rfl, _, SqL.of h⟩
def rInsert : V → List V → Hp → VK → Prop := fun x vs H Q => ∃ (l : Addr) (xs : List V) (i : Int) (y : V), x = .ref l ∧ vs = [.int i, y] ∧ H l = some (.lst xs) ∧ xs.length < sizeLine ∧ 0 ≤ i ∧ i < 2 ^ 63 ∧ Q .non (upd H l (.lst (xs.take i.toNat ++ [y] ++ xs.drop i.toNat)))
theorem x_insert {xs : List V} {i : Int} (h : H l = some (.lst xs)) (n : xs.length < sizeLine) (h0 : 0 ≤ i) (h1 : i < 2 ^ 63) (k : Q .non (upd H l (.lst (xs.take i.toNat ++ [v] ++ xs.drop i.toNat)))) : rInsert (.ref l) [.int i, v] H Q := ⟨l, xs, i, v, rfl, rfl, h, n, h0, h1, k⟩
/-! ### list(range(n)) -/
theorem x_lstRg {te : L2.St → Hp → (Int → Int → Hp → Prop) → Prop} (k : te σ H fun a b H1 => RgOk a b ∧ JustNew (.lst (rgV a b)) H1 Q) : tLstRg te σ H Q := k
theorem x_callS {sp : Sp} {E : XK} {a : TA} (k : a σ H fun vs H1 => sp vs H1 Q E) : tCall sp [] E a σ H Q := by
  show a σ H fun vs H1 => sp (vs ++ []) H1 Q E
  have e : (fun (vs : List V) (H1 : Hp) => sp (vs ++ []) H1 Q E) = fun vs H1 => sp vs H1 Q E := by
    funext vs H1
    rw [List.append_nil]
  rw [e]
  exact k
theorem x_gConsE {g : TG} {gs : TGs} {ws vs : List V} {q : L2.St → Hp → Prop} (h : ws = v :: vs) (k : g v σ H fun σ' H' => gs vs σ' H' q) : gCons g gs ws σ H q := by rw [h]; exact x_gCons k
theorem x_gNilE {ws : List V} {q : L2.St → Hp → Prop} (h : ws = []) (k : q σ H) : gNil ws σ H q := by rw [h]; exact x_gNil k
theorem x_iteTe {c : Bool} (h : c = true) (k : A) : if c = true then A else B := by rw [if_pos h]; exact k
theorem x_iteFe {c : Bool} (h : c = false) (k : B) : if c = true then A else B := by rw [if_neg (by rw [h]; exact Bool.false_ne_true)]; exact k
theorem x_rg1 {q : Int → Int → Hp → Prop} (k : ta σ H fun x H1 => ∃ n, x = .int n ∧ q 0 n H1) : tRg1 ta σ H q := k
end
section
variable {X : Cx}
theorem c_notInD {d : Addr} {es : Array DictEntry} {n : Nat} (D : KDict X.K X.w d es n) : OpR X (compareOp .NotIn) (rNID X.K d) := op_notIn_kd D
theorem c_inD {d : Addr} {es : Array DictEntry} {n : Nat} (D : KDict X.K X.w d es n) : OpR X (compareOp .In) (rIID X.K d) := op_in_kd D
theorem pg_tupB {sB : Shared} {HB : Hp} {scope : Scope} {cenv : Env} {fp : List Addr} {es : List Expr} {k : Nat} {t : TGs} {n : Nat} {pos : Pos} (hc : X.calm = true) (h : PGs (X.blk sB HB scope cenv fp) es t)
    (hn : (assignEach es (X.blk sB HB scope cenv fp).env).length = n := by rfl) (hst : (assignEach es (X.blk sB HB scope cenv fp).env).findIdx? (·.1) = none := by rfl) : PG (X.blk sB HB scope cenv fp) (.Tuple es k pos) (gTup X.K n t) := pg_tup (X := X.blk sB HB scope cenv fp) hc h hn hst
theorem c_inS : OpR X (compareOp .In) rInS := op_in_str
theorem c_insert : MtR X "list.insert" rInsert := mt_insert
end
end Sx

set_option Elab.async false
set_option linter.all false
set_option maxRecDepth 100000
set_option maxHeartbeats 2000000
namespace Ow
open PySem PySem.Spec PyProof.Rows L2 ItX

/-! ### len(set(xs)), xs a list of ints -/
def dis (ns : List Int) : Nat := (PyProof.Rows.firstMet (fun i => ns.getD i 0) ns.length).length
def tLenSetI (K : PySem.W.Frag) (ta : TE) : TE := fun σ H Q => ta σ H fun x H1 => ∃ (l : Addr) (ns : List Int), x = .ref l ∧ SqL K H1 l (ns.map V.int) ∧ ns.length ≤ 1000 ∧ Q (.int (dis ns)) H1
section
variable {X : Cx}
theorem pe_lenSetI {a : Expr} {ta : TE} {p p2 q pos : Pos} (hc : X.calm = true) (hg : Gl X "len") (hm : X.mg "len" = none) (hg2 : Gl X "set") (hm2 : X.mg "set" = none) (ha : PE X a ta)
    (na : starEach [a] X.env = (false, eval a X.env) :: starEach [] X.env := by rfl) : PE X (.Call (.Name "len" p) [.Call (.Name "set" p2) [a] [] q] [] pos) (tLenSetI X.K ta) := by
  constructor
  intro pins s σ H Q I h
  refine Call_ (ld_blt I hg hm boot_len (PyProof.Rows.callWith_builtin1 (PyProof.Rows.args_cons ?_ rfl) rfl rfl))
  refine Call_ (ld_blt I hg2 hm2 boot_set (PyProof.Rows.callWith_type1 (PyProof.Rows.args_cons (thn (ha.run pins s σ H _ I h) ?_) na) na rfl))
  rintro v s1 ⟨x, H1, I1, r1, l, ns, rfl, hq, h1, q1⟩
  refine PyProof.Rows.args_nil ?_
  cases r1
  obtain ⟨its, r, pl, hz⟩ := I1.list hq
  have hl : its.toArray.size = ns.length := by rw [List.size_toArray, ← r.length, List.length_map]
  refine PySem.call_set_list (I1.ok.hd hc) pl.isList (by simpa using intsAre_of r) (by rw [hl]; exact Nat.lt_of_le_of_lt (Nat.succ_le_succ h1) (by decide)) fun h' tk hS hk => PyProof.Rows.args_nil ?_
  rw [hl] at hS
  obtain ⟨o, es, ep, t, ho, hex, hd, _, _, _, hf, hn⟩ := hS
  have I2 : Inv X pins σ H1 { s1 with heap := h', toks := tk } := I1.kept fun b o e => hk b o (Heap.lt_size e) e
  have hle : es.size ≤ 100000 := by
    rw [hn]
    refine Nat.le_trans (PyProof.Rows.firstMet_length_le _ _) (by omega)
  exact call_len_set ho hex hd hf (by omega) ⟨.int (dis ns), H1, I2.tok _, ⟨_, by rw [hn]; rfl⟩, q1⟩
end

/-! ### the iterator of a tuple -/
def itT (l : Addr) : Obj := { cls := .type "tuple_iterator", data := .fields #[.ref l, .int 0 0] }
def ItT (l it : Addr) : HO := .ext fun h => h.get? it = some (itT l)
theorem itT_ok {P : Program} {w : World} {H : Hp} {h : Heap} {l it : Addr} (e : h.get? it = some (itT l)) : ObjOk P w H h it (ItT l it) := ⟨e, ⟨_, e⟩, fun _ _ q k => k _ q⟩
def rIterT (K : PySem.W.Frag) (n : Nat) : List V → Hp → VK → Prop := fun xs H Q => ∃ (l : Addr) (zs : List V), xs = [.ref l] ∧ SqT K H l zs ∧ ∀ it, H it = none → n ≤ it → Q (.ref it) (upd H it (ItT l it))
theorem iter_tup {prog : Program} {w : World} {A : Around} {E : Value → Shared → Prop} {s : Shared} {l : Addr} {items : Array Value} {Q : Value → Shared → Prop} (hl : s.heap.IsTuple l items) (h : Q (.ref s.heap.objs.size) { s with heap := s.heap.push (itT l) }) :
    wpAny (model prog w) A (call (.builtin "iter") [.ref l]) Q E s := by
  refine Calls.call_function_entry (by decide +kernel) (by decide +kernel) PySem.W.kdk_entry_iter (PySem.W.kdk_args_iter _) ?_
  unfold Builtin.«iter»
  refine wpAny_bind (m := someArgs "iter" 1 2 _) (wpAny_of_eq (a := [Value.ref l]) (by first | rfl | kernel_rfl!) ?_)
  show wpAny _ _ (pyIter (.ref l) >>= _) _ _ _
  exact wpAny_bind (wpAny_pyIter_tuple hl (wpAny_pure ⟨_, rfl, h⟩))
section
variable {X : Cx}
theorem call_iterT : CallR X (.builtin "iter") (rIterT X.K X.s_0.heap.objs.size) := by
  rintro pins s σ H xs us Q I r ⟨l, zs, rfl, hq, q⟩
  obtain ⟨u, rfl, ru⟩ := vals1 r
  cases ru
  obtain ⟨its, rv, p, hz⟩ := I.tuple hq
  refine iter_tup (show s.heap.IsTuple l its.toArray from p) ?_
  exact ⟨.ref s.heap.objs.size, _, I.laid (t' := s.toks) (fun b u e => Heap.get?_push_of_some _ e) (Nat.le_refl _) (itT_ok (Heap.get?_push_size _ rfl)), rfl, q _ (I.hok.fresh (Nat.le_refl _)) I.sz⟩
end

/-- a def called at ONE state: what its body's reading ends in may speak of that state -/
theorem fn_at {CX : CXT} {P : Program} {w : World} {K : PySem.W.Frag} {mg : Str → Option Value} {base : Heap} {k : Nat} {f : Addr} {x qual : Str} {st : Stmt} {fd : FuncData} {N ps : List Str} (F : Fun K x qual st f fd) (S : FnScope N ps (defScope st))
    {A : Around} {outer : List Env} {s : Shared} {H : Hp} {args : Args} {us : List Value} {vs : List V} {Q : VK} {E : XK} (hl : vs.length = ps.length) (hr : Room (k + 1) A) (e0 : Env0 P w K mg base A outer s H) (hb : BindsTo s fd args (ps.zip us)) (r : Vals vs us)
    (hbody : ∀ cdv, ∃ t, PSs (cxOf CX P w K mg base N qual (defScope st) f cdv A outer s H E) (defBody st) t ∧ t { nx := fun _ H' => Q .non H', rt := Q } (start N vs) H) :
    codeAny (model P w) A (.call (.ref f) args) (CR CX outer P w H s Q E) s := by
  obtain ⟨oc, od, kV, doc, pm, an, cdv, ct, osl, rfl, lk, hcd⟩ := F.ex
  have sub : ∀ b o, base.get? b = some o → s.heap.get? b = some o := fun b o e => (e0.bs b o e).1
  have KS := e0.mod.kin.keeps sub
  refine codeAny_call_function hr.depth (KS _ _ lk) rfl S.co S.gen rfl (PySem.W.codeRec_of KS hcd) (hb _ _ _ _ ?_)
  refine wpAny_newFunctionEnv_cells S.kind (fun y hy => ?_) fun env he sB call => ?_
  · have m := S.par y.1 (List.of_mem_zip (show (y.1, y.2) ∈ _ from hy)).1
    exact m.imp id fun q => ⟨q, PySem.W.cellsFrom_some _ _ _ (.inl q)⟩
  · subst he
    obtain ⟨t, ht, hq⟩ := hbody cdv
    refine ⟨(e0.mod.nolimit.keeps sub).keeps call.toInCall.keep, codeAny_func (wpAny_mono (ht.run [] sB _ H _ (inv_start S hr.hd e0 hl r call) hq) (fun way sE z => ?_) fun _ _ z => z)⟩
    match way, z with
    | .ret _, ⟨v, _, H', J, rv, q⟩ => exact ⟨v, H', J.os, J.bare, J.base, J.hok, rv, q⟩
    | .next, ⟨_, H', J, q⟩ => exact ⟨.non, H', J.os, J.bare, J.base, J.hok, rfl, q⟩
    | .brk, ⟨_, _, _, q⟩ => exact q.elim
    | .cont, ⟨_, _, _, q⟩ => exact q.elim

/-! ### for x in o, o of a class whose __iter__ hands a tuple's iterator out -/
/-- a def of one parameter (st, at fi), asked for an object of the class, hands out the iterator of the tuple that its field holds, young at that call -/
def ItDef (P : Program) (w : World) (K : PySem.W.Frag) (mg : Str → Option Value) (base : Heap) (k : Nat) (C fi : Addr) (fld qual : Str) (st : Stmt) (N : List Str) : Prop :=
  ∀ (cdv : Value) (A : Around) (outer : List Env) (s : Shared) (H : Hp) (E : XK) (a dx : Addr) (fs : List (Str × V)) (l : Addr) (zs : List V) (Q : VK), Room k (A.deeper (envOfC qual (defScope st) s.heap.objs.size fi cdv)) →
    H a = some (.ins C dx fs) → fs.lookup fld = some (.ref l) → SqT K H l zs → (∀ it, H it = none → s.heap.objs.size ≤ it → Q (.ref it) (upd H it (ItT l it))) →
      ∃ t, PSs (cxOf CX0 P w K mg base N qual (defScope st) fi cdv A outer s H E).nox (defBody st) t ∧ t { nx := fun _ H' => Q .non H', rt := Q } (start N [.ref a]) H
def iOwnT (K : PySem.W.Frag) (C : Addr) (fld : Str) (ta : TE) : TI := fun σ H R => ta σ H fun x H1 => ∃ (a dx : Addr) (fs : List (Str × V)) (l : Addr) (zs : List V), x = .ref a ∧ H1 a = some (.ins C dx fs) ∧ fs.lookup fld = some (.ref l) ∧ SqT K H1 l zs ∧ R (Itt K l) H1
section
variable {X : Cx} {k : Nat} {C fi : Addr} {fld x qual p1 : Str} {st : Stmt} {N : List Str} {fd : FuncData} {tg e : Expr} {ta : TE}
theorem pi_own (he : PE X e ta) (F : Fun X.K x qual st fi fd) (S : FnScope N [p1] (defScope st)) (bI : Binds X.K fd [p1] []) (D : ItDef X.prog X.w X.K X.mg X.base k C fi fld qual st N) (hr : Room (k + 1) X.A) (hx : Passes CX0 X fun _ _ _ => False)
    (hit : PySem.W.findIn X.K (.ref C) "__iter__" = some (some (.ref fi))) (hitF : PySem.W.isFn X.K (.ref fi) = true) : PI X tg e (iOwnT X.K C fld ta) := by
  refine ⟨fun pins s σ H R I h => thn (he.run pins s σ H _ I h) fun v s1 ⟨y, H1, I1, r1, a, dx, fs, l, zs, ey, ea, ef, hz, q⟩ => ?_⟩
  subst ey
  cases r1
  obtain ⟨mA, J, _⟩ := ins_get I1.hok ea
  obtain ⟨od, J, _⟩ := J.look
  obtain ⟨m, hF⟩ := I1.fr
  have one : Vals [V.ref a] [Value.ref a] := .cons rfl .nil
  have bb : BindsTo s1 fd ⟨[.ref a], []⟩ ([p1].zip [Value.ref a]) := by
    have b := bI s1 [.ref a] I1.kIn rfl
    simpa using b
  have go := fn_at (CX := CX0) (E := fun _ _ _ => False) (Q := fun v H' => ∃ it, v = .ref it ∧ H1 it = none ∧ s1.heap.objs.size ≤ it ∧ H' = upd H1 it (ItT l it)) F S (vs := [.ref a]) rfl hr I1.env0 bb one fun cdv => by
    obtain ⟨t, pt, qt⟩ := D cdv X.A X.stack s1 H1 (fun _ _ _ => False) a dx fs l zs (fun v H' => ∃ it, v = .ref it ∧ H1 it = none ∧ s1.heap.objs.size ≤ it ∧ H' = upd H1 it (ItT l it)) (hr.deeper _) ea ef hz fun it n o => ⟨it, rfl, n, o, rfl⟩
    exact ⟨t, pt.nox, qt⟩
  refine PySem.W.owit_iter hF I1.ok.mod.kin J hit hitF (wpAny_call (codeAny_mono go fun r s2 hq => ?_))
  cases r with
  | error er => exact hx pins σ H1 s1 er s2 I1 hq
  | ok fl =>
    cases fl with
    | next => exact False.elim hq
    | brk => exact False.elim hq
    | cont => exact False.elim hq
    | ret u =>
      obtain ⟨_, _, I2, rv, it, rfl, en, old, rfl⟩ := I1.after hq
      cases rv
      have g : s2.heap.get? it = some (itT l) := (I2.hok it (ItT l it) upd_same).1
      have hT : s2.TypeIs (.ref it) "tuple_iterator" := ⟨_, g, rfl⟩
      have e2 : dropH (upd H1 it (ItT l it)) it = H1 := dropH_upd en
      have d := inv_drop I2 (upd_same : upd H1 it (ItT l it) it = some (ItT l it))
      have f := inv_fp I2 (upd_same : upd H1 it (ItT l it) it = some (ItT l it)) (Nat.le_trans I1.sz old)
      rw [e2] at d f
      refine wpAny_specialOf hT PySem.F.slot_tuple_iterator_next.lookup ?_
      refine ⟨it, [it], _, _, H1, rfl, d, turn_tuple l it, ⟨_, g, rfl, rfl⟩, fun b hb => ?_, q⟩
      have e : b = it := by simpa using hb
      rw [e]
      exact f
end
end Ow

set_option Elab.async false
set_option linter.all false
set_option maxRecDepth 100000
set_option maxHeartbeats 2000000
namespace Sx
open PySem PySem.Spec PyProof.Rows L2
section
variable {H H' H1 H2 : Hp} {p a b c l : Addr} {o u : HO} {K : PySem.W.Frag} {σ : L2.St} {Q : VK} {v w : V} {D : Ends} {t : TT} {ta tb te : TE} {A B : Prop}
theorem x_iteDt {i j : Int} (h : decide (i = j) = true) (k : A) : if decide (i = j) = true then A else B := by rw [if_pos h]; exact k
theorem x_iteDf {i j : Int} (h : decide (i = j) = false) (k : B) : if decide (i = j) = true then A else B := by rw [if_neg (by rw [h]; exact Bool.false_ne_true)]; exact k
theorem x_iteNt {i j : Int} (h : decide (i = j) = false) (k : A) : if (!decide (i = j)) = true then A else B := by rw [h]; exact x_iteT k
theorem x_iteNf {i j : Int} (h : decide (i = j) = true) (k : B) : if (!decide (i = j)) = true then A else B := by rw [h]; exact x_iteF k
/-! ### isinstance -/
theorem x_isiI {i : Int} {n : String} {r : Bool} (h : kitB "int" n = some r) (k : Q (.bl r) H) : rIsi K [.int i, .ty n] H Q := ⟨_, _, _, _, r, rfl, .ty n, .base (.int i), kit_ty h, k⟩
theorem x_isiS {x : Str} {n : String} {r : Bool} (h : kitB "str" n = some r) (k : Q (.bl r) H) : rIsi K [.str x, .ty n] H Q := ⟨_, _, _, _, r, rfl, .ty n, .base (.str x), kit_ty h, k⟩
theorem x_isiB {x : Bool} {n : String} {r : Bool} (h : kitB "bool" n = some r) (k : Q (.bl r) H) : rIsi K [.bl x, .ty n] H Q := ⟨_, _, _, _, r, rfl, .ty n, .base (.bl x), kit_ty h, k⟩
theorem x_isiT {xs : List V} {n : String} {r : Bool} (hp : H p = some (.tup xs)) (h : kitB "tuple" n = some r) (k : Q (.bl r) H) : rIsi K [.ref p, .ty n] H Q := ⟨_, _, _, _, r, rfl, .ty n, .base (.tup hp), kit_ty h, k⟩
theorem x_isiL {xs : List V} {n : String} {r : Bool} (hp : H p = some (.lst xs)) (h : kitB "list" n = some r) (k : Q (.bl r) H) : rIsi K [.ref p, .ty n] H Q := ⟨_, _, _, _, r, rfl, .ty n, .base (.lst hp), kit_ty h, k⟩
/-- isinstance(a list or a tuple, (list, tuple)) -/
theorem kit_lt : PySem.W.kitAny K (.type "list") [.type "list", .type "tuple"] = some true := kitAny_cons (b := true) (kit_ty (by decide +kernel)) (fun h => nomatch h) (fun _ => rfl)
theorem kit_tt : PySem.W.kitAny K (.type "tuple") [.type "list", .type "tuple"] = some true := kitAny_cons (b := false) (kit_ty (by decide +kernel)) (fun _ => kitAny_cons (b := true) (kit_ty (by decide +kernel)) (fun h => nomatch h) (fun _ => rfl)) (fun h => nomatch h)
theorem x_isi2L {xs : List V} (hp : H p = some (.lst xs)) (hl : H l = some (.tup [.ty "list", .ty "tuple"])) (k : Q (.bl true) H) : rIsiT K [.ref p, .ref l] H Q :=
  ⟨_, l, _, _, _, true, rfl, hl, .cons (.ty _) (.cons (.ty _) .nil), .base (.lst hp), kit_lt, k⟩
theorem x_isi2T {xs : List V} (hp : H p = some (.tup xs)) (hl : H l = some (.tup [.ty "list", .ty "tuple"])) (k : Q (.bl true) H) : rIsiT K [.ref p, .ref l] H Q :=
  ⟨_, l, _, _, _, true, rfl, hl, .cons (.ty _) (.cons (.ty _) .nil), .base (.tup hp), kit_tt, k⟩
/-! ### all, tuple, len -/
theorem x_all {bs : List Bool} (h : H p = some (.lst (bs.map V.bl))) (k : Q (.bl (bs.all id)) H) : rAll K [.ref p] H Q := ⟨p, bs, rfl, SqL.of h, k⟩
theorem x_allT {n : Nat} (h : H p = some (.lst (List.replicate n (.bl true)))) (k : Q (.bl true) H) : rAll K [.ref p] H Q := by
  refine ⟨p, List.replicate n true, rfl, SqL.of (by rw [h, List.map_replicate]), ?_⟩
  rw [show (List.replicate n true).all id = true by simp]
  exact k
def rTupOf (K : PySem.W.Frag) : List V → Hp → VK → Prop := fun xs H Q => ∃ p ys, xs = [.ref p] ∧ ((SqL K H p ys ∧ ∀ l, H l = none → Q (.ref l) (upd H l (.tup ys))) ∨ (SqT K H p ys ∧ Q (.ref p) H))
theorem x_tupOfL {xs : List V} (h : H p = some (.lst xs)) (k : JustNew (.tup xs) H Q) : rTupOf K [.ref p] H Q := ⟨p, xs, rfl, .inl ⟨SqL.of h, k⟩⟩
theorem x_tupOfT {xs : List V} (h : H p = some (.tup xs)) (k : Q (.ref p) H) : rTupOf K [.ref p] H Q := ⟨p, xs, rfl, .inr ⟨SqT.of h, k⟩⟩
def rLenS : List V → Hp → VK → Prop := fun xs H Q => ∃ z, xs = [.str z] ∧ z.length ≤ sizeLine ∧ Q (.int z.length) H
theorem x_lenS {z : Str} (h : z.length ≤ sizeLine) (k : Q (.int z.length) H) : rLenS [.str z] H Q := ⟨z, rfl, h, k⟩
def LenSetK (K : PySem.W.Frag) (x : V) (H1 : Hp) (Q : VK) : Prop := ∃ (l : Addr) (ns : List Int), x = .ref l ∧ SqL K H1 l (ns.map V.int) ∧ ns.length ≤ 1000 ∧ Q (.int (Ow.dis ns)) H1
theorem x_lenSet (k : ta σ H fun x H1 => LenSetK K x H1 Q) : Ow.tLenSetI K ta σ H Q := k
theorem x_lenSetK {ns : List Int} (h : H l = some (.lst (ns.map V.int))) (hl : ns.length ≤ 1000) (k : Q (.int (Ow.dis ns)) H) : LenSetK K (.ref l) H Q := ⟨l, ns, rfl, SqL.of h, hl, k⟩
end
section
variable {X : Cx}
theorem c_tupOf : CallR X (.type "tuple") (rTupOf X.K) := call_tuple_of
theorem c_lenS : CallR X (.builtin "len") rLenS := call_len_str
end
section
variable {H H1 : Hp} {b a : Addr} {K : PySem.W.Frag} {σ : L2.St} {Q : VK} {te : TE}
theorem NB.bls {bs : List Bool} : NB (.lst (bs.map V.bl)) := by
  cases bs with
  | nil => exact NB.len (by decide)
  | cons x xs => exact NB.at0b rfl
/-- a comprehension over zip(a text, a tuple of ints), by what one turn gives -/
theorem zip_gen {x : Str} {ys : List Int} {f : Nat → Int → V} {j1 j2 : Nat} {vs : List Nat} (hx : H1 b = some (.tup (ys.map V.int))) (hn : x.cps.size = ys.length) (h4 : ys.length ≤ 1000)
    (hnb : ∀ i, NB (.lst ((List.zipWith f x.cps.toList ys).take i))) (hw : ∀ u v, wipe (((wipe σ vs).set j1 (some u)).set j2 (some v)) vs = wipe σ vs)
    (hte : ∀ (i c : Nat) (y : Int) (H' : Hp) (Q' : VK), x.cps.toList[i]? = some c → ys[i]? = some y → Q' (f c y) H' → te (((wipe σ vs).set j1 (some (.str ⟨#[c]⟩))).set j2 (some (.int y))) H' Q')
    (k : ∀ p H2, Ex H1 H2 → H1 p = none → H2 p = some (.lst (List.zipWith f x.cps.toList ys)) → Q (.ref p) H2) :
    ZK K [.str x, .ref b] H1 fun J H2 => LcGo J (gTup K 2 (gCons (gName j1) (gCons (gName j2) gNil))) tYes te vs σ H2 Q := by
  have hz : (List.zipWith f x.cps.toList ys).length = ys.length := by rw [List.length_zipWith, Array.length_toList, hn, Nat.min_self]
  refine lc_zip (n := ys.length) (.inl ⟨hn, by rw [List.length_map]; exact Nat.le_refl _⟩) hx (fun i acc _ => acc = (List.zipWith f x.cps.toList ys).take i) (by rw [List.take_zero]) (fun _ _ _ _ _ h => h) (fun i acc _ h => ?_) hw (fun i c y acc H' hc hy e hI kk k1 k2 => ?_) (fun p zs H2 e hp hzs hI => ?_)
  · subst h
    refine ⟨hnb i, Nat.lt_of_le_of_lt (Nat.le_trans (List.length_take_le' _ _) (by rw [hz]; exact h4)) (by decide)⟩
  · rw [List.getElem?_map] at hy
    cases hy' : ys[i]? with
    | none => rw [hy'] at hy; cases hy
    | some n =>
      rw [hy'] at hy
      have en : V.int n = y := Option.some.inj hy
      subst en
      have hc' : x.cps.toList[i]? = some c := by simpa using hc
      refine x_yes (x_iteT (hte i c n H' _ hc' hy' (k1 _ _ (Ex.refl _) ?_)))
      rw [List.take_add_one, hI]
      congr 1
      rw [List.getElem?_zipWith, hc', hy']
      rfl
  · refine k p H2 e hp ?_
    rw [hzs, hI, ← hz, List.take_length]
end
/-- a list without repetition has as many different ones as it is long -/
theorem step_new {ns : List Int} {v : Int} (h : v ∉ ns) : step_dedup ns v = ns ++ [v] := by
  unfold step_dedup
  rw [if_neg]
  intro e
  obtain ⟨x, hx, q⟩ := List.any_eq_true.mp e
  have : x = v := by simpa using q
  exact h (this ▸ hx)
theorem fold_new : ∀ (ns acc : List Int), (acc ++ ns).Nodup → ns.foldl step_dedup acc = acc ++ ns
  | [], acc, _ => (List.append_nil acc).symm
  | n :: ns, acc, h => by
    have h2 : n ∉ acc := fun q => by
      have := (List.nodup_append.mp h).2.2 n q n (by simp)
      exact this rfl
    rw [List.foldl_cons, step_new h2, fold_new ns (acc ++ [n]) (by rw [List.append_assoc]; exact h), List.append_assoc]
    rfl
theorem dis_nodup {ns : List Int} (h : ns.Nodup) : Ow.dis ns = ns.length := by
  unfold Ow.dis firstMet
  have e : (List.range ns.length).map (fun i => ns.getD i 0) = ns := by
    apply List.ext_getElem
    · simp
    · intro i h1 h2
      simp at h1
      simp [h1]
  rw [e, fold_new ns [] h, List.nil_append]
theorem x_lenSetN {H : Hp} {K : PySem.W.Frag} {Q : VK} {l : Addr} {ns m : List Int} (h : H l = some (.lst (ns.map V.int))) (pm : ns.Perm m) (nd : m.Nodup) (hl : m.length ≤ 1000) (k : Q (.int ns.length) H) : LenSetK K (.ref l) H Q :=
  x_lenSetK h (by rw [pm.length_eq]; exact hl) (by rw [dis_nodup (pm.nodup_iff.mpr nd)]; exact k)
end Sx

set_option Elab.async false
set_option linter.all false
set_option maxRecDepth 100000
set_option maxHeartbeats 2000000
namespace Ow
open PySem PySem.Spec PyProof.Rows L2 ItX

/-! ### promises of defs that are called where no repr is under way -/
structure FnG (P : Program) (w : World) (K : PySem.W.Frag) (mg : Str → Option Value) (base : Heap) (CX : CXT) (k : Nat) (f : Addr) (fd : FuncData) (ps : List Str) (sp : Sp) : Prop where
  same : ∀ vs H Q E, sp vs H Q E → vs.length = ps.length
  go : ∀ (A : Around) (outer : List Env) (s : Shared) (H : Hp) (args : Args) (us : List Value) (vs : List V) (Q : VK) (E : XK), A.guards = some [] → Room k A → Env0 P w K mg base A outer s H →
    BindsTo s fd args (ps.zip us) → Vals vs us → sp vs H Q E → codeAny (model P w) A (.call (.ref f) args) (CR CX outer P w H s Q E) s
section
variable {P : Program} {w : World} {K : PySem.W.Frag} {mg : Str → Option Value} {base : Heap} {CX : CXT} {k : Nat} {f : Addr} {fd : FuncData} {ps N : List Str} {sp : Sp} {x qual : Str} {st : Stmt}
theorem fnG_of (F : Fun K x qual st f fd) (S : FnScope N ps (defScope st)) (same : ∀ vs H Q E, sp vs H Q E → vs.length = ps.length)
    (body : ∀ (cdv : Value) (A : Around) (outer : List Env) (s : Shared) (H : Hp) (vs : List V) (Q : VK) (E : XK), A.guards = some [] → Room k (A.deeper (envOfC qual (defScope st) s.heap.objs.size f cdv)) → sp vs H Q E →
      ∃ t, PSs (cxOf CX0 P w K mg base N qual (defScope st) f cdv A outer s H E).nox (defBody st) t ∧ t { nx := fun _ H' => Q .non H', rt := Q } (start N vs) H) : FnG P w K mg base CX0 (k + 1) f fd ps sp :=
  ⟨same, fun A outer s H args us vs Q E hg hr e0 hb r h => fn_at F S (same _ _ _ _ h) hr e0 hb r fun cdv => by
    obtain ⟨t, p, q⟩ := body cdv A outer s H vs Q E hg (hr.deeper _) h
    exact ⟨t, p.nox, q⟩⟩
theorem FnG.up {j : Nat} (F : FnG P w K mg base CX j f fd ps sp) (h : j ≤ k) : FnG P w K mg base CX k f fd ps sp := ⟨F.same, fun A outer s H args us vs Q E hg hr => F.go A outer s H args us vs Q E hg (hr.mono h)⟩
theorem FnOk.g (F : FnOk P w K mg base CX k f fd ps sp) : FnG P w K mg base CX k f fd ps sp := ⟨F.len, fun A outer s H args us vs Q E _ => F.run A outer s H args us vs Q E⟩
end
section
variable {X : Cx} {CX : CXT} {k : Nat} {f : Addr} {fd : FuncData} {ps : List Str} {sp : Sp} {dvs : List V} {ds : List Value} {E : XK} {x : Str} {p pos : Pos} {e : Expr} {es : List Expr} {t : TA}
/-! ### repr -/
structure Shw (d : PyData) : Prop where
  able : d.showable = true
  nodict : d.hasDict = false
  short : d.leavesShort 60 = true
  bulk : d.bulk ≤ 100000
  deep : d.depth ≤ 40
def rRepr (K : PySem.W.Frag) : List V → Hp → VK → Prop := fun xs H Q => ∃ (v : V) (d : PyData), xs = [v] ∧ Dp K H v d ∧ Shw d ∧ Q (.str d.shown) H
end
/-! ### the end of a law that shows data: it is called where no repr is under way -/
section
variable {P : Program} {w : World} {K : PySem.W.Frag} {mg mb : Str → Option Value} {k : Nat} {fa a : Addr} {fd : FuncData} {x : Str} {sp : Sp} {s : Shared} {vs : List Value} {ns : List Int}
/-- from an abstract heap H that tracks at most the script -/
theorem law_from {H : Hp} (KX : K.In s.heap) (hns : s.heap.Ns mainGlobals mg) (hb : s.heap.Ns builtinsNs mb) (hbb : ∀ x : Str, x ≠ "__name__" → mb x = bootBuiltins x) (lim : s.heap.NoLimit) (hg : s.gens = #[])
    (at_ : s.heap.get? a = some { cls := .type "list", data := .seq vs.toArray }) (hr : Room k callerA)
    (F : ∀ base : Heap, K.In base → base.Ns mainGlobals mg → FnG P w K mg base CX0 k fa fd [x] sp) (bind : ∀ (s : Shared) (u : Value), BindsTo s fd ⟨[u], []⟩ [(x, u)])
    (hsp : sp [.ref a] H (fun v _ => v = .bl true) fun _ _ _ => False) (ok : HOk P w H s.heap) (here : ∀ b, H b ≠ none → b = a) (frz : ∀ u, H a = some u → ∃ o xs, u = .frz o (.lst xs)) (out : H a ≠ none → K.lookup a = none) :
    codeAny (model P w) callerA (.call (.ref fa) ⟨[.ref a], []⟩) (fun r s' => r = .ok (.ret (.bool true)) ∧ OldK s.heap s'.heap ∧ s'.os = s.os ∧ AllBare s'.gens) s := by
  have away : ∀ {b : Addr}, b ≠ a → H b = none := fun {b} n => by
    cases e : H b with
    | none => rfl
    | some u => exact absurd (here b (by rw [e]; exact nofun)) n
  -- dicts, and what the module wrote, are not the script
  have dict : ∀ {b : Addr} {o : Obj} {es : Array DictEntry} {n : Nat}, s.heap.get? b = some o → o.data = .dict es n → H b = none := fun {b o es n} e d => away fun z => by
    rw [z, at_] at e
    cases e
    cases d
  have kin : ∀ {b : Addr} {o : Obj}, K.lookup b = some o → H b = none := fun {b o} e => by
    by_cases z : b = a
    · cases q : H a with
      | none => rw [z]; exact q
      | some u =>
        have := out (by rw [q]; exact nofun)
        rw [z, this] at e
        cases e
    · exact away z
  have KB : K.In (hidT s.heap H) := fun b o e => hidT_get (KX b o e) (kin e)
  have nsB : ∀ {b : Addr} {m : Str → Option Value}, s.heap.Ns b m → (hidT s.heap H).Ns b m := fun {b m} ⟨o, es, n, e, d, r⟩ => ⟨o, es, n, hidT_get e (dict e d), d, r⟩
  have md : Mod K mg (hidT s.heap H) := ⟨KB, nsB hns, ⟨mb, nsB hb, hbb⟩, by obtain ⟨mc, l1, l2⟩ := lim; exact ⟨mc, nsB l1, l2⟩⟩
  have env : Env0 P w K mg (hidT s.heap H) callerA [] s H := ⟨rfl, md, fun b o e => of_hidT e, by rw [hidT_size]; exact Nat.le_refl _, trivial, fun b z => (nomatch z), ok, .of_eq hg⟩
  refine codeAny_mono ((F _ KB (nsB hns)).go callerA [] s H ⟨[.ref a], []⟩ [.ref a] [.ref a] _ _ rfl hr env (bind s _) (.cons rfl .nil) hsp) fun way sE z => ?_
  match way, z with
  | .ok (.ret u), ⟨v, H', e1, e2, un, ok', rv, (q : v = .bl true)⟩ =>
    subst q
    cases rv
    refine ⟨rfl, OldK.of_keep fun b o e => ?_, e1, e2⟩
    by_cases z : H b = none
    · exact un.keep b o e z (fun m => nomatch m) (fun m => nomatch m)
    · obtain rfl := here b z
      cases q : H b with
      | none => exact absurd q z
      | some u =>
        obtain ⟨o', xs, rfl⟩ := frz u q
        have f1 := (ok b _ q).1
        rw [e] at f1
        cases f1
        exact (ok' b _ (un.frzs b _ _ q)).1
/-- the promise of the law's def at the heap behind the top -/
theorem law_goes (KX : K.In s.heap) (hns : s.heap.Ns mainGlobals mg) (hb : s.heap.Ns builtinsNs mb) (hbb : ∀ x : Str, x ≠ "__name__" → mb x = bootBuiltins x) (lim : s.heap.NoLimit) (hg : s.gens = #[])
    (at_ : s.heap.get? a = some { cls := .type "list", data := .seq vs.toArray }) (hin : IntsAre vs ns) (hl : ns.length ≤ sizeLine) (hr : Room k callerA)
    (F : ∀ base : Heap, K.In base → base.Ns mainGlobals mg → FnG P w K mg base CX0 k fa fd [x] sp) (bind : ∀ (s : Shared) (u : Value), BindsTo s fd ⟨[u], []⟩ [(x, u)])
    (hsp : ∀ H : Hp, SqL K H a (ns.map V.int) → sp [.ref a] H (fun v _ => v = .bl true) fun _ _ _ => False) :
    codeAny (model P w) callerA (.call (.ref fa) ⟨[.ref a], []⟩) (fun r s' => r = .ok (.ret (.bool true)) ∧ OldK s.heap s'.heap ∧ s'.os = s.os ∧ AllBare s'.gens) s := by
  have rv := vals_ints hin
  cases e : K.lookup a with
  | some o =>
    have e2 := (KX a o e).symm.trans at_
    cases e2
    have sq : SqL K (fun _ => none) a (ns.map V.int) := .inr ⟨_, vs.toArray, _, e, rfl, rfl, rfl, by rw [List.size_toArray, hin.length]; exact hl, rv⟩
    exact law_from (H := fun _ => none) KX hns hb hbb lim hg at_ hr F bind (hsp _ sq) (fun b u q => nomatch q) (fun b q => absurd rfl q) (fun u q => nomatch q) fun q => absurd rfl q
  | none =>
    have one : ∀ {b u}, (fun b => if b = a then some (HO.frz { cls := .type "list", data := .seq vs.toArray } (.lst (ns.map V.int))) else none : Hp) b = some u → b = a ∧ u = .frz { cls := .type "list", data := .seq vs.toArray } (.lst (ns.map V.int)) := fun {b u} q => by
      dsimp only at q
      split at q
      · next h => exact ⟨h, (Option.some.inj q).symm⟩
      · cases q
    refine law_from (H := fun b => if b = a then some (.frz { cls := .type "list", data := .seq vs.toArray } (.lst (ns.map V.int))) else none) KX hns hb hbb lim hg at_ hr F bind (hsp _ (.inl (.inr ⟨_, if_pos rfl⟩))) (fun b u q => ?_) (fun b q => ?_) (fun u q => ?_) fun _ => e
    · obtain ⟨rfl, rfl⟩ := one q
      exact ⟨at_, by rw [List.length_map]; exact hl, vs, _, rv, at_⟩
    · cases z : (fun b => if b = a then some (HO.frz { cls := .type "list", data := .seq vs.toArray } (.lst (ns.map V.int))) else none : Hp) b with
      | none => exact absurd z q
      | some u => exact (one z).1
    · exact ⟨_, _, (one q).2⟩
end
theorem walk_G {l : PySem.W.OpenLaw} {n k : Nat} {q : Program} {loose : List Str} {XP : (Str → Option Value) → Heap → Prop} {YP : World → Heap → Prop} {d : DefRec} {K : Params → PySem.W.Frag} {sp : PySem.W.Frag → Sp} {x : Str}
    (hn : l.most = some n) (small : n ≤ sizeLine) (hdf : d.params.defaults = []) (hr : Room k callerA) (hY : ∀ (w : World) (h : Heap), YP w h → (K w.params).In h)
    (F : ∀ (w : World) (mg : Str → Option Value) (fa : Addr) (h : Heap), (K w.params).In h → h.Ns mainGlobals mg → mg d.name = some (.ref fa) →
      ∃ fd : FuncData, (∀ (s : Shared) (u : Value), BindsTo s fd ⟨[u], []⟩ [(x, u)]) ∧ ∀ base : Heap, (K w.params).In base → base.Ns mainGlobals mg → FnG l.prog w (K w.params) mg base CX0 k fa fd [x] (sp (K w.params)))
    (hsp : ∀ (K : PySem.W.Frag) (H : Hp) (a : Addr) (ns : List Int), ns.length ≤ n → SqL K H a (ns.map V.int) → sp K [.ref a] H (fun v _ => v = .bl true) fun _ _ _ => False) :
    PySem.W.WalkO q loose XP YP l.row.toRowW d [] (fun f vs => PySem.call f vs) := by
  refine Att.attach_call hn hdf fun w s₀ s₁ mg mb fa o pm cd doc a vs ns G Y _ _ _ hmg at_ hin hlen hg => ?_
  obtain ⟨fd, bind, go⟩ := F w mg fa _ (hY w _ Y) G.T.g hmg
  exact law_goes (hY w _ Y) G.T.g G.T.b G.T.builtins G.T.nolimit hg at_ hin (Nat.le_trans hlen small) hr go bind fun H h => hsp _ H a ns hlen h
end Ow

set_option Elab.async false
set_option linter.all false
set_option maxRecDepth 100000
set_option maxHeartbeats 2000000
namespace Sx
open PySem PySem.Spec PyProof.Rows L2
section
variable {H H' H1 H2 : Hp} {p a b c l C dx : Addr} {o u : HO} {K : PySem.W.Frag} {σ : L2.St} {Q : VK} {v w : V} {D : Ends} {t : TT} {ta tb te tv : TE} {A B : Prop} {f : Str} {fs : List (Str × V)}
/-! ### repr -/
/-! ### fields -/
def FldK (K : PySem.W.Frag) (f : Str) (x : V) (H1 : Hp) (Q : VK) : Prop := ∃ a C dx fs v, x = .ref a ∧ H1 a = some (.ins C dx fs) ∧ Cls K C ∧ NoAttr K C f ∧ fs.lookup f = some v ∧ Q v H1
theorem x_fld (k : ta σ H fun x H1 => FldK K f x H1 Q) : tFld K ta f σ H Q := k
theorem x_fldK (h : H a = some (.ins C dx fs)) (c : Cls K C) (n : NoAttr K C f) (l : fs.lookup f = some v) (k : Q v H) : FldK K f (.ref a) H Q := ⟨a, C, dx, fs, v, rfl, h, c, n, l, k⟩
def SetK (K : PySem.W.Frag) (f : Str) (y x : V) (H2 : Hp) (R : Hp → Prop) : Prop := ∃ a C dx fs, x = .ref a ∧ H2 a = some (.ins C dx fs) ∧ Cls K C ∧ NoAttr K C f ∧ fs.length < 1000 ∧ R (upd H2 a (.ins C dx (putF f y fs)))
theorem x_setF (k : tv σ H fun y H1 => ta σ H1 fun x H2 => SetK K f y x H2 fun H3 => D.nx σ H3) : sFld K ta tv f D σ H := k
theorem x_setK {y : V} {R : Hp → Prop} (h : H a = some (.ins C dx fs)) (c : Cls K C) (n : NoAttr K C f) (l : fs.length < 1000) (k : R (upd H a (.ins C dx (putF f y fs)))) : SetK K f y (.ref a) H R := ⟨a, C, dx, fs, rfl, h, c, n, l, k⟩
/-! ### a new instance -/
theorem x_make {sp : Sp} {E : XK} {ts : TA} (k : ts σ H fun vs H1 => ∀ x dx, H1 x = none → H1 dx = none → dx ≠ x → sp (.ref x :: vs) (upd (upd H1 dx (.own x)) x (.ins C dx [])) (fun v H2 => v = .non ∧ Q (.ref x) H2) E) : tMake C sp [] E ts σ H Q := by
  show ts σ H fun vs H1 => ∀ x dx, H1 x = none → H1 dx = none → dx ≠ x → sp (.ref x :: (vs ++ [])) (upd (upd H1 dx (.own x)) x (.ins C dx [])) (fun v H2 => v = .non ∧ Q (.ref x) H2) E
  have e : (fun (vs : List V) (H1 : Hp) => ∀ x dx, H1 x = none → H1 dx = none → dx ≠ x → sp (.ref x :: (vs ++ [])) (upd (upd H1 dx (.own x)) x (.ins C dx [])) (fun v H2 => v = .non ∧ Q (.ref x) H2) E) = fun vs H1 => ∀ x dx, H1 x = none → H1 dx = none → dx ≠ x → sp (.ref x :: vs) (upd (upd H1 dx (.own x)) x (.ins C dx [])) (fun v H2 => v = .non ∧ Q (.ref x) H2) E := by
    funext vs H1
    rw [List.append_nil]
  rw [e]
  exact k
/-! ### dicts, numbers, texts -/
theorem x_dict0 (k : JustNew (.dK []) H Q) : tDNewK σ H Q := k
theorem x_pow {i j : Int} (c : CPow i j) (k : Q (.int (i ^ j.toNat)) H) : rI CPow (fun i j => .int (i ^ j.toNat)) (.int i) (.int j) H Q := ⟨i, j, rfl, rfl, c, k⟩
/-- text * int -/
def rMulS : R2 := fun x y H Q => ∃ (z : Str) (i : Int), x = .str z ∧ y = .int i ∧ z.length ≤ 16 ∧ 0 ≤ i ∧ i ≤ 1048576 ∧ ∀ q : Str, Q (.str q) H
theorem x_mulS {z : Str} {i : Int} (h : z.length ≤ 16) (h0 : 0 ≤ i) (h1 : i ≤ 1048576) (k : ∀ q : Str, Q (.str q) H) : rMulS (.str z) (.int i) H Q := ⟨z, i, rfl, rfl, h, h0, h1, k⟩
end
section
variable {X : Cx}
end
/-! ### things of any kind -/
/-- what an own class's instances want for isinstance -/
structure ClsT (K : PySem.W.Frag) (C : Addr) : Prop where
  cl : Cls K C
  ha : PySem.W.findIn K (.ref C) "__class__" = some (some (.builtin "object.__class__"))
  hn : PySem.W.specialIn K (.builtin "object.__class__") "__get__" = some (some (.builtin "getset_descriptor.__get__"))
  htk : PySem.W.takesIn K (.builtin "object.__class__") = some true
  hm : PySem.W.mroIn K C (.type "object") = some true
  kI : PySem.W.kitOne K (.ref C) (.type "int") = some false
  kB : PySem.W.kitOne K (.ref C) (.type "bool") = some false
  kT : PySem.W.kitOne K (.ref C) (.type "tuple") = some false
  kL : PySem.W.kitOne K (.ref C) (.type "list") = some false
  kD : PySem.W.kitOne K (.ref C) (.type "dict") = some false
  kS : PySem.W.kitOne K (.ref C) (.type "str") = some false
inductive Thing (K : PySem.W.Frag) (H : Hp) : V → Prop where
  | int (i : Int) : Thing K H (.int i)
  | bl (b : Bool) : Thing K H (.bl b)
  | non : Thing K H .non
  | str (z : Str) : Thing K H (.str z)
  | lst {a : Addr} {xs : List V} (e : H a = some (.lst xs)) (n : NB (.lst xs)) : Thing K H (.ref a)
  | tup {a : Addr} {xs : List V} (e : H a = some (.tup xs)) : Thing K H (.ref a)
  | dK {a : Addr} {kvs : List (Key × V)} (e : H a = some (.dK kvs)) : Thing K H (.ref a)
  | ins {a C dx : Addr} {fs : List (Str × V)} (e : H a = some (.ins C dx fs)) (c : ClsT K C) : Thing K H (.ref a)
theorem NB.dK {kvs : List (Key × V)} : NB (.dK kvs) := fun _ _ _ _ h => nomatch h
section
variable {H H1 : Hp} {K : PySem.W.Frag} {v : V} {Q : VK}
theorem Thing.mono (h : Thing K H v) (e : Ex H H1) : Thing K H1 v := by
  cases h with
  | int i => exact .int i
  | bl b => exact .bl b
  | non => exact .non
  | str z => exact .str z
  | lst h n => exact .lst (e.kp _ _ h n) n
  | tup h => exact .tup (e.kp _ _ h NB.tup)
  | dK h => exact .dK (e.kp _ _ h NB.dK)
  | ins h c => exact .ins (e.kp _ _ h NB.ins) c
/-- the type of a thing and what isinstance tells of it -/
structure Kinds (K : PySem.W.Frag) (H : Hp) (v : V) (bI bB bT bL bS bD : Bool) : Prop where
  ex : ∃ t, TyX K H v t ∧ PySem.W.kitOne K t (.type "int") = some bI ∧ PySem.W.kitOne K t (.type "bool") = some bB ∧ PySem.W.kitOne K t (.type "tuple") = some bT ∧ PySem.W.kitOne K t (.type "list") = some bL ∧ PySem.W.kitOne K t (.type "str") = some bS ∧ PySem.W.kitOne K t (.type "dict") = some bD
def isBl : V → Bool
  | .bl _ => true
  | _ => false
def isStr : V → Bool
  | .str _ => true
  | _ => false
theorem Kinds.int {i : Int} : Kinds K H (.int i) true false false false false false := ⟨_, .base (.int i), kit_ty (by decide +kernel), kit_ty (by decide +kernel), kit_ty (by decide +kernel), kit_ty (by decide +kernel), kit_ty (by decide +kernel), kit_ty (by decide +kernel)⟩
theorem Kinds.bl {i : Bool} : Kinds K H (.bl i) true true false false false false := ⟨_, .base (.bl i), kit_ty (by decide +kernel), kit_ty (by decide +kernel), kit_ty (by decide +kernel), kit_ty (by decide +kernel), kit_ty (by decide +kernel), kit_ty (by decide +kernel)⟩
theorem Kinds.non : Kinds K H .non false false false false false false := ⟨_, .base .non, kit_ty (by decide +kernel), kit_ty (by decide +kernel), kit_ty (by decide +kernel), kit_ty (by decide +kernel), kit_ty (by decide +kernel), kit_ty (by decide +kernel)⟩
theorem Kinds.str {z : Str} : Kinds K H (.str z) false false false false true false := ⟨_, .base (.str z), kit_ty (by decide +kernel), kit_ty (by decide +kernel), kit_ty (by decide +kernel), kit_ty (by decide +kernel), kit_ty (by decide +kernel), kit_ty (by decide +kernel)⟩
theorem Kinds.lst {a : Addr} {xs : List V} (e : H a = some (.lst xs)) : Kinds K H (.ref a) false false false true false false := ⟨_, .base (.lst e), kit_ty (by decide +kernel), kit_ty (by decide +kernel), kit_ty (by decide +kernel), kit_ty (by decide +kernel), kit_ty (by decide +kernel), kit_ty (by decide +kernel)⟩
theorem Kinds.tup {a : Addr} {xs : List V} (e : H a = some (.tup xs)) : Kinds K H (.ref a) false false true false false false := ⟨_, .base (.tup e), kit_ty (by decide +kernel), kit_ty (by decide +kernel), kit_ty (by decide +kernel), kit_ty (by decide +kernel), kit_ty (by decide +kernel), kit_ty (by decide +kernel)⟩
theorem Kinds.dK {a : Addr} {xs : List (Key × V)} (e : H a = some (.dK xs)) : Kinds K H (.ref a) false false false false false true := ⟨_, .base (.dK e), kit_ty (by decide +kernel), kit_ty (by decide +kernel), kit_ty (by decide +kernel), kit_ty (by decide +kernel), kit_ty (by decide +kernel), kit_ty (by decide +kernel)⟩
theorem Kinds.ins {a C dx : Addr} {fs : List (Str × V)} (e : H a = some (.ins C dx fs)) (c : ClsT K C) : Kinds K H (.ref a) false false false false false false := ⟨_, .base (.ins e c.cl c.ha c.hn c.htk c.hm), c.kI, c.kB, c.kT, c.kL, c.kS, c.kD⟩
theorem Thing.kinds (h : Thing K H v) : ∃ bT bL bD, Kinds K H v (isI v || isBl v) (isBl v) bT bL (isStr v) bD := by
  cases h with
  | int i => exact ⟨_, _, _, Kinds.int⟩
  | bl b => exact ⟨_, _, _, Kinds.bl⟩
  | non => exact ⟨_, _, _, Kinds.non⟩
  | str z => exact ⟨_, _, _, Kinds.str⟩
  | lst h n => exact ⟨_, _, _, Kinds.lst h⟩
  | tup h => exact ⟨_, _, _, Kinds.tup h⟩
  | dK h => exact ⟨_, _, _, Kinds.dK h⟩
  | ins h c => exact ⟨_, _, _, Kinds.ins h c⟩
end
/-! ### shown data -/
section
variable {H : Hp} {K : PySem.W.Frag} {a : Addr}
end
end Sx

set_option Elab.async false
set_option linter.all false
set_option maxRecDepth 100000
set_option maxHeartbeats 2000000
namespace Sx
open PySem PySem.Spec PyProof.Rows L2 StrLaws
section
variable {H H' H1 H2 : Hp} {p a b c l C dx : Addr} {o u : HO} {K : PySem.W.Frag} {σ : L2.St} {Q : VK} {v w : V} {D : Ends} {t : TT} {ta tb te tv : TE} {A B : Prop}
/-! ### loops over tuples -/
def TK (K : PySem.W.Frag) (x : V) (H1 : Hp) (R : It → Hp → Prop) : Prop := ∃ a, x = .ref a ∧ (∃ xs, SqT K H1 a xs) ∧ R (Itt K a) H1
theorem x_iT {R : It → Hp → Prop} (k : ta σ H fun x H1 => TK K x H1 R) : iTup K ta σ H R := k
theorem lc_tup {xs : List V} {j : Nat} {vs : List Nat} (hx : H1 a = some (.tup xs)) (I : Nat → List V → Hp → Prop) (h0 : I 0 [] H1) (mono : ∀ i acc H H', Tx H H' → I i acc H → I i acc H') (nb : ∀ i acc H, I i acc H → NB (.lst acc) ∧ acc.length < sizeLine)
    (hw : ∀ x, wipe ((wipe σ vs).set j (some x)) vs = wipe σ vs)
    (turn : ∀ (i : Nat) x acc H', xs[i]? = some x → Ex H1 H' → I i acc H' → ∀ kk : Option V → Hp → Prop, (∀ y H4, Ex H' H4 → I (i + 1) (acc ++ [y]) H4 → kk (some y) H4) → (∀ H4, Ex H' H4 → I (i + 1) acc H4 → kk none H4) →
      t ((wipe σ vs).set j (some x)) H' fun b H3 => if b = true then te ((wipe σ vs).set j (some x)) H3 (fun y H4 => kk (some y) H4) else kk none H3)
    (k : ∀ p ys H2, Ex H1 H2 → H1 p = none → H2 p = some (.lst ys) → I xs.length ys H2 → Q (.ref p) H2) : TK K (.ref a) H1 fun J H2 => LcGo J (gName j) t te vs σ H2 Q := by
  have hq : ∀ H', Ex H1 H' → SqT K H' a xs := fun H' e => SqT.of (e.kp _ _ hx NB.tup)
  refine ⟨a, rfl, ⟨xs, SqT.of hx⟩, lc_any (n := xs.length) I h0 mono nb (fun i H' hi e => ⟨xs, xs[i], hq H' e, by simp [hi]⟩) (fun H' e => ⟨xs, hq H' e, Nat.le_refl _⟩) (fun i acc x H' H'' hi e q y kk k1 k2 => ?_) k⟩
  obtain ⟨rfl, y⟩ := y
  exact ⟨hw _, turn i x acc _ (y xs (hq _ e)) e q kk k1 k2⟩
/-! ### a dict of one pair -/
def DispK (H : Hp) (p : Addr) (ps : List (V × V)) (H2 : Hp) (Q : VK) : Prop := H2 p = some (.dK []) ∧ ∃ kvs : List (Key × V), ps = kvs.map (fun kv => (kV kv.1, kv.2)) ∧ kvs.length ≤ 15 ∧ Q (.ref p) (upd H2 p (.dK (mergeK [] kvs)))
/-! ### things that are tuples or none -/
theorem Thing.tupOr (t : Thing K H v) : (∃ p xs, v = .ref p ∧ H p = some (.tup xs)) ∨ (∃ bI bB bL bS bD, Kinds K H v bI bB false bL bS bD) ∧ ∀ p xs, v = .ref p → H p ≠ some (.tup xs) := by
  cases t with
  | int i => exact .inr ⟨⟨_, _, _, _, _, Kinds.int⟩, fun p xs e => by cases e⟩
  | bl b => exact .inr ⟨⟨_, _, _, _, _, Kinds.bl⟩, fun p xs e => by cases e⟩
  | non => exact .inr ⟨⟨_, _, _, _, _, Kinds.non⟩, fun p xs e => by cases e⟩
  | str z => exact .inr ⟨⟨_, _, _, _, _, Kinds.str⟩, fun p xs e => by cases e⟩
  | lst h n => exact .inr ⟨⟨_, _, _, _, _, Kinds.lst h⟩, fun p xs e q => by cases e; rw [h] at q; cases q⟩
  | tup h => exact .inl ⟨_, _, rfl, h⟩
  | dK h => exact .inr ⟨⟨_, _, _, _, _, Kinds.dK h⟩, fun p xs e q => by cases e; rw [h] at q; cases q⟩
  | ins h c => exact .inr ⟨⟨_, _, _, _, _, Kinds.ins h c⟩, fun p xs e q => by cases e; rw [h] at q; cases q⟩
/-- a thing, and so are its items if it is a tuple -/
structure Deep (K : PySem.W.Frag) (H : Hp) (v : V) : Prop where
  th : Thing K H v
  it : ∀ p xs, v = .ref p → H p = some (.tup xs) → ∀ x ∈ xs, Thing K H x
theorem Deep.flat (t : Thing K H v) (n : ∀ p xs, v = .ref p → H p ≠ some (.tup xs)) : Deep K H v := ⟨t, fun p xs e h => absurd h (n p xs e)⟩
theorem Deep.tup {xs : List V} (h : H a = some (.tup xs)) (t : ∀ x ∈ xs, Thing K H x) : Deep K H (.ref a) := ⟨.tup h, fun p ys e q => by
  cases e
  rw [h] at q
  cases q
  exact t⟩
theorem Deep.mono (d : Deep K H v) (e : Ex H H1) : Deep K H1 v := by
  refine ⟨d.th.mono e, fun p xs ev h x hx => ?_⟩
  rcases d.th.tupOr with ⟨p', ys, e1, h1⟩ | ⟨_, no⟩
  · subst ev
    cases e1
    have h2 := e.kp _ _ h1 NB.tup
    rw [h] at h2
    cases h2
    exact (d.it _ _ rfl h1 x hx).mono e
  · subst ev
    have g := d.th
    cases g with
    | lst q n => have := e.kp _ _ q n; rw [h] at this; cases this
    | tup q => exact absurd q (no _ _ rfl)
    | dK q => have := e.kp _ _ q NB.dK; rw [h] at this; cases this
    | ins q c => have := e.kp _ _ q NB.ins; rw [h] at this; cases this
end
/-! ### shown numbers -/
theorem log2_small {n : Nat} (h : n < 10 ^ 59) : n.log2 < 1920 := by
  by_cases h0 : n = 0
  · subst h0; decide
  · rw [Nat.log2_lt h0]
    exact Nat.lt_of_lt_of_le h (Nat.le_trans (show 10 ^ 59 ≤ 2 ^ 200 by decide) (Nat.pow_le_pow_right (by decide) (by decide)))
theorem int_short {i : Int} (h : i.natAbs < 10 ^ 59) : PyData.leavesShort 60 (.int i) = true := by
  simp only [PyData.leavesShort, decide_eq_true_eq]
  have e := int_text_length_le10 (k := 59) (by decide) h
  show (Str.ofString (toString i)).length ≤ 60
  rw [PySem.ofString_length]
  exact e
theorem int_shows {i : Int} (h : i.natAbs < 10 ^ 59) : PyData.showable (.int i) = true := by
  simp only [PyData.showable, decide_eq_true_eq]
  exact log2_small h
end Sx

set_option Elab.async false
set_option linter.all false
set_option maxRecDepth 100000
set_option maxHeartbeats 2000000
namespace Sx
open PySem PySem.Spec PyProof.Rows L2
section
variable {H H' H1 H2 : Hp} {p a b c l C dx : Addr} {o u : HO} {K : PySem.W.Frag} {σ : L2.St} {Q : VK} {v w : V} {D : Ends} {t : TT} {ta tb te tv tx ty td : TE} {A B : Prop} {i j : Int} {xs ys : List V}
/-! ### min, max, list, index -/
def rMin2 : List V → Hp → VK → Prop := fun xs H Q => ∃ i j, xs = [.int i, .int j] ∧ Q (.int (if j < i then j else i)) H
def rMax2 : List V → Hp → VK → Prop := fun xs H Q => ∃ i j, xs = [.int i, .int j] ∧ Q (.int (if j > i then j else i)) H
def rListOf (K : PySem.W.Frag) : List V → Hp → VK → Prop := fun xs H Q => ∃ p ys, xs = [.ref p] ∧ (SqL K H p ys ∨ SqT K H p ys) ∧ JustNew (.lst ys) H Q
theorem x_listOfL (h : H p = some (.lst xs)) (k : JustNew (.lst xs) H Q) : rListOf K [.ref p] H Q := ⟨p, xs, rfl, .inl (SqL.of h), k⟩
def rTupIdx (K : PySem.W.Frag) : V → List V → Hp → VK → Prop := fun x xs H Q => ∃ (p : Addr) (ns : List Int) (n : Int) (j : Nat), x = .ref p ∧ xs = [.int n] ∧ SqT K H p (ns.map V.int) ∧ ns[j]? = some n ∧ (∀ m, m < j → ns[m]? ≠ some n) ∧ Q (.int (j : Nat)) H
/-! ### tuples joined and cut, any -/
theorem x_catA (h : H a = some (.tup xs)) (h' : H b = some (.tup ys)) (l : xs.length + ys.length ≤ sizeLine) (k : ∀ p H1, Ex H H1 → H1 p = some (.tup (xs ++ ys)) → Q (.ref p) H1) : rCatA K (.ref a) (.ref b) H Q := by
  refine ⟨a, b, xs, ys, rfl, rfl, SqT.of h, SqT.of h', l, fun e => ?_, fun _ e => ?_, fun _ _ p hp => k p _ (Ex.new hp) upd_same⟩
  · exact k b H (Ex.refl H) (by rw [h', e]; rfl)
  · exact k a H (Ex.refl H) (by rw [h, e, List.append_nil])
theorem x_slA {lo hi : Option Int} (h : H a = some (.tup xs)) (k : ∀ p H1, Ex H H1 → H1 p = some (.tup (cutV xs lo hi)) → Q (.ref p) H1) : rSlA K (.ref a) lo hi H Q := by
  refine ⟨a, xs, rfl, SqT.of h, fun e => ?_, fun _ p hp => k p _ (Ex.new hp) upd_same⟩
  refine k a H (Ex.refl H) ?_
  rw [h]
  unfold cutV
  rw [e.1, e.2, List.drop_zero, Nat.sub_zero, List.take_length]
/-! ### a dict of four pairs, and get -/
end
end Sx

set_option Elab.async false
set_option linter.all false
set_option maxRecDepth 100000
set_option maxHeartbeats 2000000
/-! a tuple the other way round -/
namespace Rv
open PySem PySem.Spec PyProof.Rows L2
section
variable {prog : Program} {w : World} {A : Around} {E : Value → Shared → Prop} {s : Shared}
end
section
variable {X : Cx}
/-- t[::-1], t a tuple -/
def tBackT (K : PySem.W.Frag) (te : TE) : TE := fun σ H Q => te σ H fun x H1 => ∃ a xs, x = .ref a ∧ SqT K H1 a xs ∧ ∀ p, H1 p = none → Q (.ref p) (upd H1 p (.tup xs.reverse))
end
end Rv
namespace Rv
open PySem PySem.Spec PyProof.Rows L2
section
variable {X : Cx}
/-! ### a range as a value, and what is not in it -/
def rRange1 : List V → Hp → VK → Prop := fun vs H Q => ∃ j : Int, vs = [.int j] ∧ ∀ p, H p = none → Q (.ref p) (upd H p (.rng 0 j))
def rNotInRng : R2 := fun x y H Q => ∃ (i : Int) (a : Addr) (lo hi : Int), x = .int i ∧ y = .ref a ∧ H a = some (.rng lo hi) ∧ Q (.bl (!decide (lo ≤ i ∧ i < hi))) H
/-! ### repr, of an empty dict too -/
def rReprX (K : PySem.W.Frag) : List V → Hp → VK → Prop := fun xs H Q => Ow.rRepr K xs H Q ∨ ∃ a, xs = [.ref a] ∧ H a = some (.dK []) ∧ Q (.str (PyData.dict []).shown) H
end
end Rv

set_option Elab.async false
set_option linter.all false
set_option maxRecDepth 100000
set_option maxHeartbeats 2000000
namespace Sx
open PySem PySem.Spec PyProof.Rows L2 StrLaws
/-! ### data that stays -/
mutual
def DN (H : Hp) : PyData → V → Prop
  | .none, v => v = .non
  | .bool b, v => v = .bl b
  | .int i, v => v = .int i
  | .str z, v => v = .str z
  | .list ds, v => ∃ a xs, v = .ref a ∧ H a = some (.lst xs) ∧ NB (.lst xs) ∧ DNs H ds xs
  | .tuple ds, v => ∃ a xs, v = .ref a ∧ H a = some (.tup xs) ∧ DNs H ds xs
  | .dict _, _ => False
def DNs (H : Hp) : List PyData → List V → Prop
  | [], xs => xs = []
  | d :: ds, xs => ∃ x r, xs = x :: r ∧ DN H d x ∧ DNs H ds r
end
mutual
theorem DN.dp {H : Hp} {K : PySem.W.Frag} : ∀ (d : PyData) (v : V), DN H d v → Dp K H v d
  | .none, _, h => by rw [DN] at h; rw [h]; exact .non
  | .bool b, _, h => by rw [DN] at h; rw [h]; exact .bl b
  | .int i, _, h => by rw [DN] at h; rw [h]; exact .int i
  | .str z, _, h => by rw [DN] at h; rw [h]; exact .str z
  | .list ds, _, h => by
    rw [DN] at h
    obtain ⟨a, xs, rfl, ha, _, hd⟩ := h
    exact .lst (SqL.of ha) (DNs.dp ds xs hd)
  | .tuple ds, _, h => by
    rw [DN] at h
    obtain ⟨a, xs, rfl, ha, hd⟩ := h
    exact .tup (SqT.of ha) (DNs.dp ds xs hd)
  | .dict _, _, h => by rw [DN] at h; exact h.elim
theorem DNs.dp {H : Hp} {K : PySem.W.Frag} : ∀ (ds : List PyData) (xs : List V), DNs H ds xs → DpAll K H xs ds
  | [], _, h => by rw [DNs] at h; rw [h]; exact .nil
  | d :: ds, _, h => by
    rw [DNs] at h
    obtain ⟨x, r, rfl, h1, h2⟩ := h
    exact .cons (DN.dp d x h1) (DNs.dp ds r h2)
end
mutual
theorem DN.mono {H H1 : Hp} (e : Ex H H1) : ∀ (d : PyData) (v : V), DN H d v → DN H1 d v
  | .none, _, h => by rw [DN] at h ⊢; exact h
  | .bool b, _, h => by rw [DN] at h ⊢; exact h
  | .int i, _, h => by rw [DN] at h ⊢; exact h
  | .str z, _, h => by rw [DN] at h ⊢; exact h
  | .list ds, _, h => by
    rw [DN] at h ⊢
    obtain ⟨a, xs, rfl, ha, nb, hd⟩ := h
    exact ⟨a, xs, rfl, e.kp _ _ ha nb, nb, DNs.mono e ds xs hd⟩
  | .tuple ds, _, h => by
    rw [DN] at h ⊢
    obtain ⟨a, xs, rfl, ha, hd⟩ := h
    exact ⟨a, xs, rfl, e.kp _ _ ha NB.tup, DNs.mono e ds xs hd⟩
  | .dict _, _, h => by rw [DN] at h; exact h.elim
theorem DNs.mono {H H1 : Hp} (e : Ex H H1) : ∀ (ds : List PyData) (xs : List V), DNs H ds xs → DNs H1 ds xs
  | [], _, h => by rw [DNs] at h ⊢; exact h
  | d :: ds, _, h => by
    rw [DNs] at h ⊢
    obtain ⟨x, r, rfl, h1, h2⟩ := h
    exact ⟨x, r, rfl, DN.mono e d x h1, DNs.mono e ds r h2⟩
end
theorem DNs.len {H : Hp} : ∀ {ds : List PyData} {xs : List V}, DNs H ds xs → ds.length = xs.length
  | [], _, h => by rw [DNs] at h; rw [h]; rfl
  | d :: ds, _, h => by
    rw [DNs] at h
    obtain ⟨x, r, rfl, h1, h2⟩ := h
    rw [List.length_cons, List.length_cons, DNs.len h2]
/-- small data -/
structure Sml (b e : Nat) (d : PyData) : Prop where
  able : d.showable = true
  nodict : d.hasDict = false
  short : d.leavesShort 60 = true
  lay : d.canLay0 = true
  bulk : d.bulk ≤ b
  deep : d.depth ≤ e
theorem Sml.up {b e b' e' : Nat} {d : PyData} (h : Sml b e d) (h1 : b ≤ b') (h2 : e ≤ e') : Sml b' e' d := ⟨h.able, h.nodict, h.short, h.lay, Nat.le_trans h.bulk h1, Nat.le_trans h.deep h2⟩
theorem Sml.shw {b e : Nat} {d : PyData} (h : Sml b e d) (h1 : b ≤ 100000) (h2 : e ≤ 40) : Ow.Shw d := ⟨h.able, h.nodict, h.short, Nat.le_trans h.bulk h1, Nat.le_trans h.deep h2⟩
theorem Sml.all {b e : Nat} : ∀ {ds : List PyData}, (∀ d ∈ ds, Sml b e d) → PyData.showableAll ds = true ∧ PyData.hasDictAll ds = false ∧ PyData.leavesShortAll 60 ds = true ∧ PyData.canLayAll0 ds = true ∧ PyData.bulkAll ds ≤ ds.length * (b + 1) ∧ PyData.depthAll ds ≤ e
  | [], _ => by simp [PyData.showableAll, PyData.hasDictAll, PyData.leavesShortAll, PyData.canLayAll0, PyData.bulkAll, PyData.depthAll]
  | d :: ds, h => by
    obtain ⟨h1, h2, h3, h4, h5, h6⟩ := h d (by simp)
    obtain ⟨k1, k2, k3, k4, k5, k6⟩ := Sml.all (ds := ds) fun x hx => h x (by simp [hx])
    refine ⟨?_, ?_, ?_, ?_, ?_, ?_⟩
    · simp [PyData.showableAll, h1, k1]
    · simp [PyData.hasDictAll, h2, k2]
    · simp [PyData.leavesShortAll, h3, k3]
    · simp [PyData.canLayAll0, h4, k4]
    · simp only [PyData.bulkAll, List.length_cons]
      rw [Nat.add_mul, Nat.one_mul]
      omega
    · simp only [PyData.depthAll]
      exact Nat.max_le.mpr ⟨h6, k6⟩
theorem Sml.tup {b e n : Nat} {ds : List PyData} (h : ∀ d ∈ ds, Sml b e d) (hn : ds.length ≤ n) : Sml (n * (b + 1)) (e + 1) (.tuple ds) := by
  obtain ⟨k1, k2, k3, k4, k5, k6⟩ := Sml.all h
  refine ⟨by simpa [PyData.showable] using k1, by simpa [PyData.hasDict] using k2, by simpa [PyData.leavesShort] using k3, by simpa [PyData.canLay0] using k4, ?_, ?_⟩
  · simp only [PyData.bulk]
    exact Nat.le_trans k5 (Nat.mul_le_mul_right _ hn)
  · simp only [PyData.depth]
    omega
theorem Sml.lst {b e n : Nat} {ds : List PyData} (h : ∀ d ∈ ds, Sml b e d) (hn : ds.length ≤ n) : Sml (n * (b + 1)) (e + 1) (.list ds) := by
  obtain ⟨k1, k2, k3, k4, k5, k6⟩ := Sml.all h
  refine ⟨by simpa [PyData.showable] using k1, by simpa [PyData.hasDict] using k2, by simpa [PyData.leavesShort] using k3, by simpa [PyData.canLay0] using k4, ?_, ?_⟩
  · simp only [PyData.bulk]
    exact Nat.le_trans k5 (Nat.mul_le_mul_right _ hn)
  · simp only [PyData.depth]
    omega
theorem Sml.int {i : Int} (h : i.natAbs < 10 ^ 59) : Sml 0 0 (.int i) := ⟨int_shows h, by simp [PyData.hasDict], int_short h, by simp [PyData.canLay0], by simp [PyData.bulk], by simp [PyData.depth]⟩
theorem Sml.bool {b : Bool} : Sml 0 0 (.bool b) := ⟨by simp [PyData.showable], by simp [PyData.hasDict], by simp [PyData.leavesShort], by simp [PyData.canLay0], by simp [PyData.bulk], by simp [PyData.depth]⟩
theorem Sml.none : Sml 0 0 .none := ⟨by simp [PyData.showable], by simp [PyData.hasDict], by simp [PyData.leavesShort], by simp [PyData.canLay0], by simp [PyData.bulk], by simp [PyData.depth]⟩
theorem Sml.str {z : Str} {n : Nat} (ok : PyData.strOk z = true) (h : (z.cps.toList.all fun c => decide (c < 16 ^ 8)) = true) (hn : z.cps.size ≤ n) : Sml n 0 (.str z) := ⟨by simp [PyData.showable], by simp [PyData.hasDict], by simpa only [PyData.leavesShort] using h, by simpa [PyData.canLay0] using ok, by simpa [PyData.bulk] using hn, by simp [PyData.depth]⟩
section
variable {H H1 : Hp} {b a : Addr} {K : PySem.W.Frag} {σ : L2.St} {Q : VK} {te : TE}
end
end Sx

set_option Elab.async false
set_option linter.all false
set_option maxRecDepth 100000
set_option maxHeartbeats 2000000
namespace Sx
open PySem PySem.Spec PyProof.Rows L2 StrLaws
section
variable {H H1 : Hp} {p b a : Addr} {K : PySem.W.Frag} {σ : L2.St} {Q : VK} {te : TE} {v w : V} {xs : List V}
theorem NB.rng {i j : Int} : NB (.rng i j) := fun _ _ _ _ h => nomatch h
end
section
variable {X : Cx}
theorem c_listOf : CallR X (.type "list") (rListOf X.K) := call_list_of
end
end Sx

set_option Elab.async false
set_option maxRecDepth 100000
set_option maxHeartbeats 2000000
set_option linter.all false
/-! errors of the program: try .. except C as e .. else -/
namespace Er
open PySem PySem.Spec PyProof.Rows L2
section
variable {X : Cx} {x n : Str} {c : Value} {i : Nat} {body suite : List Stmt} {b0 : Stmt} {np pos pos' : Pos}
variable {tb : WX → TS} {ts : Addr → Value → Option Addr → TS} {Wout : WX}
/-- what the handlers are to do with an exception -/
def Met (X : Cx) (pins : List (Addr × Obj)) (D : Ends) (hd : ExceptHandler) (v : Value) (s' : Shared) : Prop :=
  wpAny (model X.prog X.w) X.A (noteFrame v X.env) (fun _ s2 => wpAny (model X.prog X.w) X.A (setFlight v none) (fun _ s3 =>
    wpAny (model X.prog X.w) X.A (handleBy v X.env [hd]) (SP X pins D) X.xe s3) X.xe s2) X.xe s'
end
end Er

set_option Elab.async false
set_option maxRecDepth 100000
set_option maxHeartbeats 2000000
set_option linter.all false
/-! errors of the program: made, raised, asked for their class, read; defs called while one is handled -/
namespace Er
open PySem PySem.Spec PyProof.Rows L2
/-- what the top says of an error's class -/
structure XC (K : PySem.W.Frag) (C : Addr) : Prop where
  oex : OexC K C
  ga : PySem.W.findIn K (.ref C) "__getattribute__" = some (some (.builtin "BaseException.__getattribute__"))
  gg : PySem.W.findIn K (.ref C) "__getattr__" = some none
  hd : PySem.W.hasDictIn K C = true
  ha : PySem.W.findIn K (.ref C) "__class__" = some (some (.builtin "object.__class__"))
  hn : PySem.W.specialIn K (.builtin "object.__class__") "__get__" = some (some (.builtin "getset_descriptor.__get__"))
  ht : PySem.W.takesIn K (.builtin "object.__class__") = some true
  hm : PySem.W.mroIn K C (.type "object") = some true
section
variable {X : Cx} {CX : CXT} {x : Str} {C fI : Addr} {k : Nat} {fd : FuncData} {ps : List Str} {sp : Sp} {e : Expr} {es : List Expr} {ta : TA} {p pos : Pos}
end
/-! ### in the suite -/
section
variable {X : Cx} {a : Addr} {cls : Value} {d : Option Addr} {oe : Obj} {pn : List (Addr × Obj)}
/-- isinstance(e, c), e the error that the suite holds, of the class D -/
def rIsX (K : PySem.W.Frag) (cls : Value) (d : Option Addr) (a : Addr) : List V → Hp → VK → Prop := fun xs H Q =>
  ∃ (D : Addr) (c : V) (cv : Value) (b : Bool), cls = .ref D ∧ XC K D ∧ (d = none ∨ ∃ dd fs, d = some dd ∧ H dd = some (.xd fs)) ∧
    xs = [.ref a, c] ∧ (∀ u, RelV c u → u = cv) ∧ PySem.W.kitOne K (.ref D) cv = some b ∧ Q (.bl b) H
/-- e.f -/
def tXg (K : PySem.W.Frag) (a : Addr) (cls : Value) (d : Option Addr) (f : Str) (te : TE) : TE := fun σ H Q => te σ H fun x H1 =>
  x = .ref a ∧ ∃ (C dd : Addr) (fs : List (Str × V)) (v : V), cls = .ref C ∧ XC K C ∧ PySem.W.findIn K (.ref C) f = some none ∧
    d = some dd ∧ H1 dd = some (.xd fs) ∧ fs.lookup f = some v ∧ Q v H1
end
/-! ### defs called while an error is handled, no repr under way -/
structure FnGH (P : Program) (w : World) (K : PySem.W.Frag) (mg : Str → Option Value) (base : Heap) (CX : CXT) (k : Nat) (f : Addr) (fd : FuncData) (ps : List Str) (sp : Sp) : Prop where
  same : ∀ vs H Q E, sp vs H Q E → vs.length = ps.length
  go : ∀ (A : Around) (outer : List Env) (s : Shared) (H : Hp) (args : Args) (us : List Value) (vs : List V) (Q : VK) (E : XK) (p : Addr × Obj), A.guards = some [] → L2H.RoomH k A → L2H.Hot1 A p →
    L2H.PinOk outer H s p → Env0 P w K mg base A outer s H → BindsTo s fd args (ps.zip us) → Vals vs us → sp vs H Q E → codeAny (model P w) A (.call (.ref f) args) (CR CX outer P w H s Q E) s
section
variable {P : Program} {w : World} {K : PySem.W.Frag} {mg : Str → Option Value} {base : Heap} {CX : CXT} {k : Nat} {f : Addr} {fd : FuncData} {ps N : List Str} {sp : Sp} {x qual : Str} {st : Stmt}
theorem FnGH.up {j : Nat} (F : FnGH P w K mg base CX j f fd ps sp) (h : j ≤ k) : FnGH P w K mg base CX k f fd ps sp :=
  ⟨F.same, fun A outer s H args us vs Q E p hg hr => F.go A outer s H args us vs Q E p hg (hr.mono h)⟩
end
section
variable {X : Cx} {CX : CXT} {k : Nat} {f : Addr} {fd : FuncData} {ps : List Str} {sp : Sp} {E : XK} {x : Str} {p pos : Pos} {e : Expr} {es : List Expr} {t : TA}
end
end Er

set_option Elab.async false
set_option maxRecDepth 100000
set_option maxHeartbeats 2000000
set_option linter.all false
/-! errors of the program: what the readings ask -/
namespace Er
open PySem PySem.Spec PyProof.Rows L2 Sx
section
variable {P : Program} {w : World} {K : PySem.W.Frag} {mg : Str → Option Value} {base : Heap}
end
theorem _root_.Sx.NB.xd {fs : List (Str × V)} : NB (.xd fs) := fun _ _ _ _ h => nomatch h
section
variable {K : PySem.W.Frag} {σ : L2.St} {H H1 H2 : Hp} {Q : VK} {E : XK} {C a p : Addr} {f : Str} {v y z : V} {D : Ends} {W Wout : WX} {te : TE} {cls : Value} {d : Option Addr}
/-- what an error's __init__ of one field does -/
def sp_init (C : Addr) (f : Str) : Sp := fun vs H Q _ => ∃ (a : Addr) (y : V), vs = [.ref a, y] ∧ H a = some (exo a C none) ∧
  ∀ dx, H dx = none → dx ≠ a → Q .non (upd (upd H dx (exd dx [(f, y)])) a (exo a C (some dx)))
def MkK (C : Addr) (sp : Sp) (vs : List V) (H1 : Hp) (Q : XK) : Prop := vs.length ≤ 1000 ∧ ∀ a, H1 a = none → sp (.ref a :: (vs ++ [])) (upd H1 a (exo a C none))
  (fun v H2 => v = .non ∧ ∃ (d : Addr) (fs : List (Str × V)), H2 a = some (exo a C (some d)) ∧ H2 d = some (exd d fs) ∧ H1 d = none ∧ Q (.ref C) (some d) (upd (del H2 a) d (.xd fs))) (fun _ _ _ => False)
/-! while -/
def GoOn (Pv : L2.St → Hp → Prop) (μ : L2.St → Hp → Nat) (m : Nat) (tb : TS) (D : Ends) (σ : L2.St) (H : Hp) : Prop :=
  ∃ N : L2.St → Hp → Prop, (∀ σ' H', N σ' H' → ∃ m', m' < m ∧ (m' = μ σ' H' ∧ Pv σ' H')) ∧ tb { D with nx := N, ct := N, bk := D.nx } σ H
theorem x_goOn {Pv : L2.St → Hp → Prop} {μ : L2.St → Hp → Nat} {m : Nat} {tb : TS}
    (k : tb { D with nx := fun σ' H' => Pv σ' H' ∧ μ σ' H' < m, ct := fun σ' H' => Pv σ' H' ∧ μ σ' H' < m, bk := D.nx } σ H) : GoOn Pv μ m tb D σ H :=
  ⟨_, fun σ' H' ⟨q, l⟩ => ⟨_, l, rfl, q⟩, k⟩
theorem x_while {tc : TT} {tb : TS} (Pv : L2.St → Hp → Prop) (μ : L2.St → Hp → Nat) (h0 : Pv σ H)
    (hs : ∀ σ H, Pv σ H → tc σ H fun b H1 => if b = true then GoOn Pv μ (μ σ H) tb D σ H1 else D.nx σ H1) : tWhile tc tb D σ H := by
  refine ⟨fun m σ H => m = μ σ H ∧ Pv σ H, ⟨_, rfl, h0⟩, ?_⟩
  rintro m σ H ⟨rfl, q⟩
  exact hs σ H q
end
/-! three names at once, lists turned about, dicts asked -/
section
variable {K : PySem.W.Frag} {σ : L2.St} {H H1 H2 : Hp} {Q : VK} {a p : Addr} {u v w z : V} {D : Ends} {te : TE}
theorem x_par3 {i j l : Nat} {ta : TA} (k : ta σ H fun vs H1 => ∃ u v w, vs = [u, v, w] ∧ D.nx (((σ.set i (some u)).set j (some v)).set l (some w)) H1) : tPar3 i j l ta D σ H := k
theorem x_ex_3 {R : V → V → V → Prop} (k : R u v w) : ∃ a b c, [u, v, w] = [a, b, c] ∧ R a b c := ⟨u, v, w, rfl, k⟩
def RevL (K : PySem.W.Frag) (x : V) (H1 : Hp) (Q : VK) : Prop := ∃ a xs, x = .ref a ∧ SqL K H1 a xs ∧ ∀ p, H1 p = none → Q (.ref p) (upd H1 p (.lst xs.reverse))
theorem x_revL0 (k : te σ H fun x H1 => RevL K x H1 Q) : tRevL K te σ H Q := k
theorem x_revL {xs : List V} (h : H a = some (.lst xs)) (k : JustNew (.lst xs.reverse) H Q) : RevL K (.ref a) H Q := ⟨a, xs, rfl, SqL.of h, k⟩
def DGo (y z : V) (a : Addr) (H3 : Hp) (Q : VK) : Prop := ∃ o, DGet H3 a y o ∧ Q (o.getD z) H3
def DIs (x : V) (H1 : Hp) (R : Addr → Prop) : Prop := ∃ a, x = .ref a ∧ IsD H1 a ∧ R a
theorem x_dget2 {td ty tx : TE} (k : td σ H fun x H1 => DIs x H1 fun a => ty σ H1 fun y H2 => tx σ H2 fun z H3 => DGo y z a H3 Q) : tDGet2 td ty tx σ H Q := k
theorem x_dis {kvs : List (Key × V)} {R : Addr → Prop} (h : H a = some (.dK kvs)) (k : R a) : DIs (.ref a) H R := ⟨a, rfl, .inl ⟨kvs, .inl h⟩, k⟩
theorem x_dgo {kvs : List (Key × V)} {s : Str} (h : H a = some (.dK kvs)) (e : (valV kvs (Sum.inr s)).getD z = w) (k : Q w H) : DGo (.str s) z a H Q := ⟨_, .inl ⟨kvs, .inr s, .inl h, rfl, rfl⟩, by rw [e]; exact k⟩
end
/-! a loop over a list that is known, turn by turn; append -/
section
variable {K : PySem.W.Frag} {σ : L2.St} {H H1 H2 : Hp} {Q : VK} {a l p : Addr} {u v w z : V} {D : Ends}
def Unr (a : Addr) (xs : List V) (j : Nat) (tb : TS) (D : Ends) : List V → L2.St → Hp → Prop
  | [], σ, H => D.nx σ H
  | v :: vs, σ, H => tb { D with nx := fun σ' H' => H' a = some (.lst xs) ∧ Unr a xs j tb D vs σ' H', ct := fun σ' H' => H' a = some (.lst xs) ∧ Unr a xs j tb D vs σ' H', bk := D.nx } (σ.set j (some v)) H
theorem x_append {xs : List V} (h : H l = some (.lst xs)) (n : xs.length < sizeLine) (k : Q .non (upd H l (.lst (xs ++ [v])))) : L2.rAppend (.ref l) [v] H Q := ⟨l, xs, v, rfl, rfl, h, n, k⟩
end
/-! == of any two of the kinds below, repr of these -/
section
variable {X : Cx}
def rEqAny (K : PySem.W.Frag) : R2 := fun x y H Q => rEq x y H Q ∨ rEqD K x y H Q ∨
  ∃ a b kvs, x = .ref a ∧ y = .ref b ∧ H a = some (.dK kvs) ∧ H b = some (.dK kvs) ∧ (kvs.map (·.1)).Nodup ∧ (∀ p ∈ kvs, flatB p.2 = true) ∧ Q (.bl true) H
end
end Er

set_option Elab.async false
set_option maxRecDepth 100000
set_option maxHeartbeats 2000000
set_option linter.all false
/-! two that are alike: == says so, and repr shows the same -/
namespace Er
open PySem PySem.Spec PyProof.Rows L2 Sx
/-! repr, of a dict of one text and one int too -/
def rReprY (K : PySem.W.Frag) : List V → Hp → VK → Prop := fun xs H Q => Rv.rReprX K xs H Q ∨ ∃ (a : Addr) (z : Str) (i : Int), xs = [.ref a] ∧ H a = some (.dK [(Sum.inr z, .int i)]) ∧ i.natAbs.log2 < 1920 ∧
  (PyData.dict [(.str z, .int i)]).shown.length ≤ 1000 ∧ Q (.str (PyData.dict [(.str z, .int i)]).shown) H
structure Alike (K : PySem.W.Frag) (H : Hp) (v w : V) : Prop where
  eq : ∀ H1 Q, Ex H H1 → Q (.bl true) H1 → rEqAny K v w H1 Q
  rp : ∃ z, (∀ H1 Q, Ex H H1 → Q (.str z) H1 → rReprY K [v] H1 Q) ∧ ∀ H1 Q, Ex H H1 → Q (.str z) H1 → rReprY K [w] H1 Q
section
variable {K : PySem.W.Frag} {H H1 : Hp} {v w : V}
theorem Alike.mono (h : Alike K H v w) (e : Ex H H1) : Alike K H1 v w := by
  obtain ⟨a, z, b, c⟩ := h
  exact ⟨fun H2 Q f => a H2 Q (e.trans f), z, fun H2 Q f => b H2 Q (e.trans f), fun H2 Q f => c H2 Q (e.trans f)⟩
theorem shows {d : PyData} {b e : Nat} (h : DN H d v) (s : Sml b e d) (hb : b ≤ 100000) (he : e ≤ 40) : ∀ H1 Q, Ex H H1 → Q (.str d.shown) H1 → rReprY K [v] H1 Q :=
  fun H1 Q f q => .inl (.inl ⟨v, d, rfl, DN.dp _ _ (DN.mono f _ _ h), s.shw hb he, q⟩)
theorem Alike.of {d : PyData} {b e : Nat} (h1 : DN H d v) (h2 : DN H d w) (s : Sml b e d) (hb : b ≤ 100000) (he : e ≤ 40) : Alike K H v w := by
  refine ⟨?_, d.shown, shows h1 s hb he, shows h2 s hb he⟩
  intro H1 Q f q
  have g1 := DN.mono f _ _ h1
  have g2 := DN.mono f _ _ h2
  have er := SeqAt.eqv_refl d s.lay
  have sh : SeqAt.shaped d = true := by unfold SeqAt.shaped; rw [s.lay]; have := s.deep; simp; omega
  have deep : rEqAny K v w H1 Q := .inr (.inl ⟨d, d, DN.dp _ _ g1, DN.dp _ _ g2, sh, sh, by rw [er]; exact q⟩)
  exact deep
end
section
variable {K : PySem.W.Frag} {H H1 : Hp} {v w : V} {a : Addr}
theorem dnInt {i : Int} : DN H (.int i) (.int i) := by rw [DN]
theorem dnBl {b : Bool} : DN H (.bool b) (.bl b) := by rw [DN]
theorem dnNon : DN H .none .non := by rw [DN]
theorem dnStr {z : Str} : DN H (.str z) (.str z) := by rw [DN]
theorem dnTup {xs : List V} {ds : List PyData} (h : H a = some (.tup xs)) (d : DNs H ds xs) : DN H (.tuple ds) (.ref a) := by rw [DN]; exact ⟨a, xs, rfl, h, d⟩
theorem dnNil : DNs H [] [] := by rw [DNs]
theorem dnCons {d : PyData} {ds : List PyData} {x : V} {xs : List V} (h : DN H d x) (r : DNs H ds xs) : DNs H (d :: ds) (x :: xs) := by rw [DNs]; exact ⟨x, xs, rfl, h, r⟩
/-- a thing that is alike itself -/
structure Both (K : PySem.W.Frag) (H : Hp) (v : V) : Prop where
  t : Thing K H v
  al : Alike K H v v
theorem Both.mono (h : Both K H v) (e : Ex H H1) : Both K H1 v := ⟨h.t.mono e, h.al.mono e⟩
theorem Both.of {d : PyData} {b e : Nat} (t : Thing K H v) (h : DN H d v) (s : Sml b e d) (hb : b ≤ 100000 := by decide) (he : e ≤ 40 := by decide) : Both K H v := ⟨t, .of h h s hb he⟩
theorem Both.int {i : Int} (h : i.natAbs < 10 ^ 59) : Both K H (.int i) := .of (.int i) dnInt (Sml.int h)
theorem Both.bl {b : Bool} : Both K H (.bl b) := .of (.bl b) dnBl Sml.bool
theorem Both.non : Both K H .non := .of .non dnNon Sml.none
theorem Both.str {z : Str} {n : Nat} (ok : PyData.strOk z = true) (h : (z.cps.toList.all fun c => decide (c < 16 ^ 8)) = true) (hn : z.cps.size ≤ n) (hb : n ≤ 100000) : Both K H (.str z) := .of (.str z) dnStr (Sml.str ok h hn) hb
theorem AllB.nil : ∀ v ∈ ([] : List V), Both K H v := fun _ h => nomatch h
theorem AllB.cons {v : V} {xs : List V} (t : Both K H v) (r : ∀ v ∈ xs, Both K H v) : ∀ u ∈ v :: xs, Both K H u := by
  intro u h
  rcases List.mem_cons.mp h with e | h
  · rw [e]; exact t
  · exact r u h
end
/-- text * int, the text told -/
def rMulS2 : R2 := fun x y H Q => ∃ (z : Str) (i : Int), x = .str z ∧ y = .int i ∧ z.length ≤ 16 ∧ 0 ≤ i ∧ i ≤ 1048576 ∧ Q (.str (Txt.mul z i)) H
end Er

set_option Elab.async false
set_option maxRecDepth 100000
set_option maxHeartbeats 2000000
set_option linter.all false
/-! flat items: ints, truths, None, short texts -/
namespace Er
open PySem PySem.Spec PyProof.Rows L2 Sx
def strB (z : Str) : Bool := PyData.strOk z && ((z.cps.toList.all fun c => decide (c < 16 ^ 8)) && decide (z.cps.size ≤ 10))
def okF : V → Prop
  | .int i => i.natAbs < 10 ^ 59
  | .bl _ => True
  | .non => True
  | .str z => strB z = true
  | _ => False
def toD : V → PyData
  | .int i => .int i
  | .bl b => .bool b
  | .str z => .str z
  | _ => .none
theorem All.nil {α : Type} {p : α → Prop} : ∀ x ∈ ([] : List α), p x := fun _ h => nomatch h
theorem All.cons {α : Type} {p : α → Prop} {x : α} {xs : List α} (h : p x) (r : ∀ y ∈ xs, p y) : ∀ y ∈ x :: xs, p y := by
  intro y m
  rcases List.mem_cons.mp m with e | m
  · rw [e]; exact h
  · exact r y m
section
variable {K : PySem.W.Frag} {H H1 : Hp} {v : V} {p : Addr} {xs : List V}
theorem okF.dn (h : okF v) : DN H (toD v) v := by
  cases v with
  | int i => exact dnInt
  | bl b => exact dnBl
  | non => exact dnNon
  | str z => exact dnStr
  | _ => exact h.elim
theorem okF.sml (h : okF v) : Sml 10 0 (toD v) := by
  cases v with
  | int i => exact (Sml.int h).up (by decide) (by decide)
  | bl b => exact Sml.bool.up (by decide) (by decide)
  | non => exact Sml.none.up (by decide) (by decide)
  | str z =>
    have h : strB z = true := h
    unfold strB at h
    rw [Bool.and_eq_true, Bool.and_eq_true] at h
    exact Sml.str h.1 h.2.1 (of_decide_eq_true h.2.2)
  | _ => exact h.elim
theorem okF.th (h : okF v) : Thing K H v := by
  cases v with
  | int i => exact .int i
  | bl b => exact .bl b
  | non => exact .non
  | str z => exact .str z
  | _ => exact h.elim
theorem okF.both (h : okF v) : Both K H v := .of h.th h.dn h.sml
theorem dns_map : ∀ {xs : List V}, (∀ x ∈ xs, okF x) → DNs H (xs.map toD) xs
  | [], _ => dnNil
  | x :: xs, h => dnCons (h x (by simp)).dn (dns_map fun y m => h y (by simp [m]))
theorem sml_map (h : ∀ x ∈ xs, okF x) : ∀ d ∈ xs.map toD, Sml 10 0 d := by
  intro d m
  obtain ⟨x, hx, rfl⟩ := List.mem_map.mp m
  exact (h x hx).sml
end
end Er

set_option Elab.async false
set_option linter.all false
set_option maxRecDepth 100000
set_option maxHeartbeats 2000000
namespace Ow
open PySem PySem.Spec PyProof.Rows L2 ItX

/-! ### t[a:b].index(i), the slice two ints -/
def twO (f g : Int) (t u : Tok) (n : Nat) : Obj := { cls := .type "tuple", data := .seq #[.int f t, .int g u] n }
def TwE (p : Addr) (f g : Int) : HO := .ext fun h => ∃ (t u : Tok) (n : Nat), h.get? p = some (twO f g t u n)
def rSlTE (K : PySem.W.Frag) : V → Option Int → Option Int → Hp → VK → Prop := fun x lo hi H Q => ∃ (a : Addr) (xs : List V) (f g : Int), x = .ref a ∧ SqT K H a xs ∧
  ¬ (HT.sIx xs.length 0 lo = 0 ∧ HT.sIx xs.length xs.length hi = xs.length) ∧ cutV xs lo hi = [.int f, .int g] ∧ ∀ p, H p = none → Q (.ref p) (upd H p (TwE p f g))
def tyE : V → Hp → Prop := fun x H => ∃ (p : Addr) (f g : Int), x = .ref p ∧ H p = some (TwE p f g)
def rIndexE : V → List V → Hp → VK → Prop := fun x xs H Q => ∃ (p : Addr) (f g i : Int), x = .ref p ∧ xs = [.int i] ∧ H p = some (TwE p f g) ∧ (i = f → Q (.int 0) H) ∧ (i ≠ f → i = g ∧ Q (.int 1) H)
end Ow

set_option Elab.async false
set_option linter.all false
set_option maxRecDepth 100000
set_option maxHeartbeats 2000000
namespace Ow
open PySem PySem.Spec PyProof.Rows L2 ItX
/-! ### == by an own __eq__, with both answers -/
/-- what stands on the other side: of the class itself, or of a class that is no child of it -/
def Oth (X : Cx) (C : Addr) (y : V) (H : Hp) : Prop := ∀ (pins : List (Addr × Obj)) (σ : L2.St) (s : Shared) (v : Value), L2.Inv X pins σ H s → RelV y v → ∃ tb, W.Looks (model X.prog X.w) s.heap (typeOf v) tb ∧ W.notFirst X.K C tb = true
def rEqC (X : Cx) (C : Addr) (sp : Sp) (E : XK) : R2 := fun x y H Q => ∃ (a dx : Addr) (fs : List (Str × V)), x = .ref a ∧ H a = some (.ins C dx fs) ∧ Oth X C y H ∧ sp [x, y] H (fun v H' => (∃ b, v = .bl b) ∧ Q v H') E
end Ow

set_option Elab.async false
set_option linter.all false
set_option maxRecDepth 100000
set_option maxHeartbeats 2000000
namespace Ow
open PySem PySem.Spec PyProof.Rows L2 ItX
theorem ifBound_objNe {M : Model} {A : Around} {E : Value → Shared → Prop} {s : Shared} {K : W.Frag} {x C : Addr} {ox : Obj} {od : Option Obj} {args : List Value} {Q : Option Value → Shared → Prop} (X : K.In s.heap) (I : W.InstAt s.heap x ox C od)
    (hs : W.findIn K (Value.ref C) (Str.ofString "__ne__") = some (some (Value.builtin "object.__ne__"))) (h : wpAny M A (call (Value.builtin "object.__ne__") (Value.ref x :: args)) (fun v => Q (some v)) E s) :
    wpAny M A (callSpecialIfBound? (Value.ref x) (Str.ofString "__ne__") args) Q E s := by
  have fin := wpAny_bind (f := fun v => (pure (some v) : Sem (Option Value))) (wpAny_mono h (fun v s' h' => wpAny_pure h') fun x x_1 h' => h')
  unfold callSpecialIfBound?
  refine wpAny_holding ?_
  refine wpAny_bind (wpAny_bind (wpAny_bind (W.Looks.here (W.InstAt.type I) (W.Looks.here (W.looks_findIn X hs) (wpAny_bind (wpAny_askSetting (wpAny_ite ?_)))))))
  split
  · refine wpAny_bind (wpAny_of_eq (F.slot_object_ne.bind (Value.ref x)) (wpAny_pure fin))
  · refine wpAny_tryCatch (wpAny_bind (wpAny_of_eq (F.slot_object_ne.bind (Value.ref x)) (wpAny_pure fin)))

theorem rc_objNe {prog : Program} {w : World} {A : Around} {E : Value → Shared → Prop} {s : Shared} {K : W.Frag} {x C : Addr} {ox : Obj} {od : Option Obj} {b tb : Value} {Q : Value → Shared → Prop} (hu : A.units < cLine) (X : K.In s.heap) (I : W.InstAt s.heap x ox C od)
    (hb : W.Looks (model prog w) s.heap (typeOf b) tb) (hn : W.notFirst K C tb = true) (hs : W.findIn K (Value.ref C) (Str.ofString "__ne__") = some (some (Value.builtin "object.__ne__")))
    (h : wpAny (model prog w) A (call (Value.builtin "object.__ne__") [Value.ref x, b]) (fun v s' => (∃ c, v = .bool c) ∧ Q v s') E s) :
    wpAny (model prog w) A (richCompare .NotEq (Value.ref x) b) Q E s := by
  have one : wpAny (model prog w) A (tryCompare (Value.ref x) (Str.ofString "__ne__") b) (fun r s' => ∃ v, r = some v ∧ Q v s') E s := by
    unfold tryCompare
    refine wpAny_bind (ifBound_objNe X I hs (wpAny_mono h (fun v s' hv => ?_) fun _ _ e => e))
    obtain ⟨⟨c, rfl⟩, q⟩ := hv
    exact wpAny_pure ⟨_, rfl, q⟩
  have ot : oneThing? .NotEq (Value.ref x) b = none := by cases b <;> rfl
  unfold richCompare
  refine wpAny_holding (wpAny_bind (wpAny_cRoomFor hu ?_))
  rw [ot]
  refine wpAny_bind (W.Looks.here I.type (wpAny_bind (W.Looks.here hb ?_)))
  have fin : wpAny (model prog w) A (tryCompare (Value.ref x) (Str.ofString "__ne__") b >>= fun r => match r with
      | some v => pure v
      | x_1 => (do
        if (!false) = true then do
          let r ← tryCompare b (Str.ofString "__ne__") (Value.ref x)
          match r with
          | some v => pure v
          | x_2 => do
            rule "compare.ne-identity"
            let r ← isSame (Value.ref x) b
            pure (Value.bool !r)
        else do
          rule "compare.ne-identity"
          let r ← isSame (Value.ref x) b
          pure (Value.bool !r))) Q E s := by
    refine wpAny_bind (wpAny_mono one (fun r s' hv => ?_) fun _ _ e => e)
    obtain ⟨v, rfl, q⟩ := hv
    exact wpAny_pure q
  by_cases he : (Value.ref C != tb) = true
  · rw [if_pos he]
    have hsub : W.subIn K tb (Value.ref C) = some false := by
      unfold W.notFirst at hn
      rw [Bool.or_eq_true] at hn
      rcases hn with e | e
      · have : Value.ref C = tb := (eq_of_beq e).symm
        subst this
        simp at he
      · exact eq_of_beq e
    refine wpAny_bind (W.Looks.here (W.looks_subIn X hsub) ?_)
    exact fin
  · rw [if_neg he]
    refine wpAny_bind (wpAny_pure ?_)
    exact fin

def rNeC (X : Cx) (C : Addr) (sp : Sp) (E : XK) : R2 := fun x y H Q => ∃ (a dx : Addr) (fs : List (Str × V)), x = .ref a ∧ H a = some (.ins C dx fs) ∧ Oth X C y H ∧ sp [x, y] H (fun v H' => ∃ b, v = .bl b ∧ Q (.bl (!b)) H') E
theorem op_neOwn {X : Cx} {n : Nat} {CX : CXT} {C f : Addr} {fd : FuncData} {ps : List Str} {sp : Sp} {E : XK} (F : FnOk X.prog X.w X.K X.mg X.base CX n f fd ps sp)
    (hs : W.findIn X.K (Value.ref C) (Str.ofString "__eq__") = some (some (Value.ref f))) (hf : W.isFn X.K (Value.ref f) = true) (hb : Binds X.K fd ps []) (hx : Passes CX X E) (hr : Room (n + 1) X.A)
    (hne : W.findIn X.K (Value.ref C) (Str.ofString "__ne__") = some (some (Value.builtin "object.__ne__"))) (hm : W.mroIn X.K C (Value.type "object") = some true) : OpR X (compareOp .NotEq) (rNeC X C sp E) := by
  rintro pins s σ H x y v u Q I rx ry ⟨a, dx, fs, rfl, ha, ho, hsp⟩
  cases rx
  obtain ⟨tb, lk, nf⟩ := ho pins σ s u I ry
  obtain ⟨mA, J, _⟩ := ins_get I.hok ha
  obtain ⟨od, J, _⟩ := ObjM.look J
  show wpAny _ _ (richCompare .NotEq _ _) _ _ _
  refine rc_objNe hr.units0 I.kIn J lk nf hne ?_
  refine wpAny_call (codeAny_call_builtin PySem.F.slot_object_ne.plain PySem.F.entry_object_ne (W.check_slot (owner := "object") (n := "__ne__") (by decide +kernel) (by decide +kernel) (W.Looks.andThen (W.InstAt.type J) (W.looks_mroIn I.kIn hm)) (PySem.F.args_object_ne_2 _ _) ?_))
  unfold Builtin.«object.__ne__»
  refine wpAny_bind (m := slotArgs "__ne__" 1 _) (wpAny_of_eq (a := (Value.ref a, [u])) (by first | rfl | kernel_rfl!) ?_)
  refine wpAny_bind (wpAny_cRoomFor hr.in1.units0 ?_)
  have hl := F.len _ _ _ _ hsp
  have r2 : Vals [V.ref a, y] [Value.ref a, u] := Paired.cons rfl (Paired.cons ry Paired.nil)
  have bi := hb s [Value.ref a, u] I.kIn (by simpa using hl)
  rw [List.append_nil] at bi
  have e := I.env0
  have e0 : Env0 X.prog X.w X.K X.mg X.base X.A.in1 X.stack s H := { frames := e.frames, mod := e.mod, bs := e.bs, bsz := e.bsz, funs := e.funs, frf := e.frf, hok := e.hok, bare := e.bare }
  refine wpAny_bind (W.ifBound_K I.kIn J hs hf (wpAny_call (codeAny_mono (F.run X.A.in1 X.stack s H { pos := [Value.ref a, u] } [Value.ref a, u] [V.ref a, y] _ E hr.in1 e0 bi r2 hsp) fun r s' hq => ?_)))
  cases r with
  | error e => exact hx pins σ H s e s' I hq
  | ok fl =>
    cases fl with
    | ret w =>
      obtain ⟨z, H', I', rz, ⟨b, ez, q⟩⟩ := Inv.after I hq
      subst ez
      cases rz
      refine wpAny_bind (wpAny_truthy_bool ?_)
      exact wpAny_pure ⟨⟨_, rfl⟩, .bl (!b), H', I', rfl, q⟩
    | _ => exact hq.elim
end Ow

set_option Elab.async false
set_option linter.all false
set_option maxRecDepth 100000
set_option maxHeartbeats 2000000
namespace Ow
open PySem PySem.Spec PyProof.Rows L2 ItX
/-! ### len(o) by an own __len__ -/
def rLenC (X : Cx) (C : Addr) (sp : Sp) (E : XK) : List V → Hp → VK → Prop := fun xs H Q => ∃ (a dx : Addr) (fs : List (Str × V)), xs = [.ref a] ∧ H a = some (.ins C dx fs) ∧ sp [.ref a] H (fun v H' => ∃ n : Int, v = .int n ∧ 0 ≤ n ∧ n < 2 ^ 63 ∧ Q (.int n) H') E
end Ow

set_option Elab.async false
set_option linter.all false
set_option maxRecDepth 100000
set_option maxHeartbeats 2000000
namespace Ow
open PySem PySem.Spec PyProof.Rows L2 ItX
/-! ### list(o), o of a class whose __iter__ hands a tuple's iterator out and that has a __len__ -/
def rListC (X : Cx) (C : Addr) (fld : Str) (spL : Sp) : List V → Hp → VK → Prop := fun xs H Q => ∃ (a dx : Addr) (fs : List (Str × V)) (l : Addr) (zs : List V), xs = [.ref a] ∧ H a = some (.ins C dx fs) ∧ fs.lookup fld = some (.ref l) ∧ SqT X.K H l zs ∧
  (∀ H1, H1 a = some (.ins C dx fs) → SqT X.K H1 l zs → spL [.ref a] H1 (fun v H' => v = .int zs.length ∧ H' = H1) fun _ _ _ => False) ∧ ∀ p, H p = none → Q (.ref p) (upd H p (.lst zs))
end Ow

set_option Elab.async false
set_option linter.all false
set_option maxRecDepth 100000
set_option maxHeartbeats 2000000
namespace Ow
open PySem PySem.Spec PyProof.Rows L2 ItX Sx
/-! ### own classes: what the readings ask -/
/-- facts of an own class that stands beside built-in things -/
structure ClsX (K : W.Frag) (C : Addr) : Prop where
  t : ClsT K C
  kO : W.kitOne K (.ref C) (.ref C) = some true
  kI : W.kitOne K (.type "int") (.ref C) = some false
  kL : W.kitOne K (.type "list") (.ref C) = some false
  kT : W.kitOne K (.type "tuple") (.ref C) = some false
  ne : W.findIn K (.ref C) "__ne__" = some (some (.builtin "object.__ne__"))
  nI : W.notFirst K C (.type "int") = true
  nL : W.notFirst K C (.type "list") = true
  nT : W.notFirst K C (.type "tuple") = true
section
variable {K : W.Frag} {H H1 : Hp} {Q : VK} {p a l C dx : Addr} {fs : List (Str × V)} {xs : List V} {σ : L2.St} {te : TE}
theorem x_isiC (hp : H p = some (.ins C dx fs)) (c : ClsX K C) (k : Q (.bl true) H) : rIsi K [.ref p, .ref C] H Q := ⟨_, _, _, _, true, rfl, .own C, .base (.ins hp c.t.cl c.t.ha c.t.hn c.t.htk c.t.hm), c.kO, k⟩
/-! the other side of == -/
theorem oth_of {X : Cx} {y : V} {tb : Value} (ty : TyX X.K H y tb) (n : W.notFirst X.K C tb = true) : Oth X C y H := fun pins σ s v I ry => by
  obtain ⟨P, Z, p, _⟩ := kit_of I ry ty
  exact ⟨tb, Z.ty _ _ I.kIn p, n⟩
theorem oth_ins {X : Cx} (hp : H p = some (.ins C dx fs)) (c : ClsT X.K C) : Oth X C (.ref p) H := oth_of (.base (.ins hp c.cl c.ha c.hn c.htk c.hm)) (by unfold W.notFirst; rw [show (Value.ref C == Value.ref C) = true from beq_self_eq_true _]; rfl)
/-! readings -/
theorem x_neC {X : Cx} {sp : Sp} {E : XK} {y : V} (hp : H p = some (.ins C dx fs)) (o : Oth X C y H) (k : sp [.ref p, y] H (fun v H' => ∃ b, v = .bl b ∧ Q (.bl (!b)) H') E) : rNeC X C sp E (.ref p) y H Q := ⟨p, dx, fs, rfl, hp, o, k⟩
theorem x_lenC {X : Cx} {sp : Sp} {E : XK} (hp : H p = some (.ins C dx fs)) (k : sp [.ref p] H (fun v H' => ∃ n : Int, v = .int n ∧ 0 ≤ n ∧ n < 2 ^ 63 ∧ Q (.int n) H') E) : rLenC X C sp E [.ref p] H Q := ⟨p, dx, fs, rfl, hp, k⟩
theorem x_listC {X : Cx} {spL : Sp} {fld : Str} (hp : H p = some (.ins C dx fs)) (hf : fs.lookup fld = some (.ref l)) (hz : SqT X.K H l xs) (hl : ∀ H1, H1 p = some (.ins C dx fs) → SqT X.K H1 l xs → spL [.ref p] H1 (fun v H' => v = .int xs.length ∧ H' = H1) fun _ _ _ => False)
    (k : ∀ q H1, Ex H H1 → H q = none → H1 q = some (.lst xs) → Q (.ref q) H1) : rListC X C fld spL [.ref p] H Q := ⟨p, dx, fs, l, xs, rfl, hp, hf, hz, hl, fun q hq => k q _ (Ex.new hq) hq upd_same⟩
/-- o.m(..), behind the reading of o -/
def MethK (C : Addr) (m : Str) (sp : Sp) (E : XK) (t : TA) (σ : L2.St) (x : V) (H : Hp) (Q : VK) : Prop := ∃ a dx fs, x = .ref a ∧ H a = some (.ins C dx fs) ∧ fs.lookup m = none ∧ t σ H fun vs H2 => sp (x :: vs) H2 Q E
theorem x_meth {m : Str} {sp : Sp} {E : XK} {t : TA} (k : te σ H fun x H1 => MethK C m sp E t σ x H1 Q) : tMeth C m sp [] E te t σ H Q := by
  show te σ H fun x H1 => ∃ a dx fs, x = .ref a ∧ H1 a = some (.ins C dx fs) ∧ fs.lookup m = none ∧ t σ H1 fun vs H2 => sp (x :: (vs ++ [])) H2 Q E
  have e : (fun (x : V) (H1 : Hp) => ∃ a dx fs, x = .ref a ∧ H1 a = some (.ins C dx fs) ∧ fs.lookup m = none ∧ t σ H1 fun vs H2 => sp (x :: (vs ++ [])) H2 Q E) = fun x H1 => MethK C m sp E t σ x H1 Q := by
    funext x H1
    unfold MethK
    simp only [List.append_nil]
  rw [e]
  exact k
def PropK (C : Addr) (sp : Sp) (E : XK) (x : V) (H : Hp) (Q : VK) : Prop := ∃ a dx fs, x = .ref a ∧ H a = some (.ins C dx fs) ∧ sp [.ref a] H Q E
theorem x_prop {sp : Sp} {E : XK} (k : te σ H fun x H1 => PropK C sp E x H1 Q) : tProp C sp [] E te σ H Q := k
/-- o for the iterator of its field, behind the reading of o -/
def IOwnK (K : W.Frag) (C : Addr) (fld : Str) (x : V) (H1 : Hp) (R : It → Hp → Prop) : Prop := ∃ (a dx : Addr) (fs : List (Str × V)) (l : Addr) (zs : List V), x = .ref a ∧ H1 a = some (.ins C dx fs) ∧ fs.lookup fld = some (.ref l) ∧ SqT K H1 l zs ∧ R (Itt K l) H1
theorem x_iOwn {fld : Str} {R : It → Hp → Prop} (k : te σ H fun x H1 => IOwnK K C fld x H1 R) : iOwnT K C fld te σ H R := k
theorem x_bm0 {T : String} {r : V → List V → Hp → VK → Prop} (k : te σ H fun x H1 => tyV K T x H1 ∧ r x [] H1 Q) : tBM0 K T r te σ H Q := k
theorem NB.ext {φ : Heap → Prop} : NB (.ext φ) := fun _ _ _ _ h => nomatch h
end
/-! a comprehension over a tuple, a loop over one (the iterator of one) -/
section
variable {H H1 : Hp} {K : W.Frag} {σ : L2.St} {Q : VK} {D : Ends} {t : TT} {te : TE} {a : Addr}
/-- the iterable, a tuple that stands -/
def TK (K : W.Frag) (x : V) (H1 : Hp) (R : It → Hp → Prop) : Prop := ∃ a, x = .ref a ∧ (∃ xs, SqT K H1 a xs) ∧ R (Itt K a) H1
end
/-! within a comprehension: the rules whose readings name K -/
section
variable {X : Cx} {sB : Shared} {HB : Hp} {scope : Scope} {cenv : Env} {fp : List Addr}
theorem ix_listB : IxR (X.blk sB HB scope cenv fp) (rIxL X.K) := ix_list (X := X.blk sB HB scope cenv fp)
theorem sl_listB : SlR (X.blk sB HB scope cenv fp) (rSlL X.K) := sl_list (X := X.blk sB HB scope cenv fp)
end
end Ow

set_option Elab.async false
set_option linter.all false
set_option maxRecDepth 100000
set_option maxHeartbeats 2000000
namespace Ow
open PySem PySem.Spec PyProof.Rows L2 ItX Sx
/-! slices of lists by whole numbers -/
theorem cut_take {xs : List V} {i : Nat} : cutV xs none (some (i : Int)) = xs.take i := by
  unfold cutV
  rw [HT.sIx_nat, HT.sIx_none, List.drop_zero, Nat.sub_zero]
  by_cases h : i ≤ xs.length
  · rw [Nat.min_eq_left h]
  · rw [Nat.min_eq_right (by omega), List.take_of_length_le (Nat.le_refl _), List.take_of_length_le (by omega)]
theorem cut_drop {xs : List V} {i : Nat} : cutV xs (some (i : Int)) none = xs.drop i := by
  unfold cutV
  rw [HT.sIx_nat, HT.sIx_none]
  by_cases h : i ≤ xs.length
  · rw [Nat.min_eq_left h, List.take_of_length_le (by rw [List.length_drop]; exact Nat.le_refl _)]
  · rw [Nat.min_eq_right (by omega), List.drop_eq_nil_of_le (by omega), List.drop_eq_nil_of_le (by omega), List.take_nil]
theorem cut_drop1 {xs : List V} {i : Nat} : cutV xs (some ((i : Int) + 1)) none = xs.drop (i + 1) := by
  rw [show (i : Int) + 1 = ((i + 1 : Nat) : Int) by omega]
  exact cut_drop
theorem cut_drop_one {xs : List V} : cutV xs (some 1) none = xs.drop 1 := cut_drop (i := 1)
theorem cut_take_one {xs : List V} : cutV xs none (some 1) = xs.take 1 := cut_take (i := 1)
/-! lists of addresses alone -/
def Refs (xs : List V) : Prop := ∀ v ∈ xs, ∃ a, v = V.ref a
theorem Refs.nil : Refs [] := fun _ h => nomatch h
theorem Refs.cons {a : Addr} {xs : List V} (h : Refs xs) : Refs (.ref a :: xs) := fun v hv => (List.mem_cons.mp hv).elim (fun e => ⟨a, e⟩) (h v)
theorem Refs.app {xs ys : List V} (h : Refs xs) (h2 : Refs ys) : Refs (xs ++ ys) := fun v hv => (List.mem_append.mp hv).elim (h v) (h2 v)
theorem Refs.cut {xs : List V} {lo hi : Option Int} (h : Refs xs) : Refs (cutV xs lo hi) := fun v hv => h v (by unfold cutV at hv; exact List.mem_of_mem_drop (List.mem_of_mem_take hv))
theorem Refs.rev {xs : List V} (h : Refs xs) : Refs xs.reverse := fun v hv => h v (List.mem_reverse.mp hv)
theorem Refs.drop {xs : List V} {n : Nat} (h : Refs xs) : Refs (xs.drop n) := fun v hv => h v (List.mem_of_mem_drop hv)
theorem Refs.take {xs : List V} {n : Nat} (h : Refs xs) : Refs (xs.take n) := fun v hv => h v (List.mem_of_mem_take hv)
theorem Refs.nb {xs : List V} (h : Refs xs) : NB (.lst xs) := NB.refs h
section
variable {K : W.Frag} {H : Hp} {Q : VK} {a b : Addr} {xs ys : List V}
end
end Ow

set_option Elab.async false
set_option linter.all false
set_option maxRecDepth 100000
set_option maxHeartbeats 2000000
namespace Ow
open PySem PySem.Spec PyProof.Rows L2 ItX Sx
/-! ### tuple * int, all cases -/
theorem tuple_mul_same (l : Addr) (items : Array Value) (n : Nat) (dd : Option Addr) (sl : Array (Option Value)) (x : Int) (u : Tok) (c0 : (decide (x < -(2 ^ 63)) || decide (x ≥ 2 ^ 63)) = false) (c1 : (items.isEmpty || x == 1) = true) :
    Meets (Builtin.«tuple.__mul__» ⟨[.ref l, .int x u], []⟩) (fun _ R s => s.heap.get? l = some { cls := .type "tuple", dict := dd, data := .seq items n, slots := sl } ∧ R (.ok (.ret (Value.ref l))) s) :=
  .of_wp fun prog w A R s h => by
    obtain ⟨hp, g, d, tk, os⟩ := s
    obtain ⟨hl, h⟩ := h
    have f1 := AutoSeq1.idx_int
    wp_walk using wpAny_loadPart' hl
    repeat (first
      | (refine wpAny_ite_false (decide_eq_false (by rw [c0]; exact Bool.false_ne_true)) ?_; wp_walk using wpAny_loadPart' hl)
      | (refine wpAny_ite_true (decide_eq_true (by rw [c1])) ?_; wp_walk using wpAny_loadPart' hl))
    all_goals exact ⟨_, rfl, h⟩
theorem tuple_mul_nil (l : Addr) (items : Array Value) (n : Nat) (dd : Option Addr) (sl : Array (Option Value)) (x : Int) (u : Tok) (c0 : (decide (x < -(2 ^ 63)) || decide (x ≥ 2 ^ 63)) = false) (c1 : (items.isEmpty || x == 1) = false) (c2 : (decide (x ≤ 0) || items.isEmpty) = true) :
    Meets (Builtin.«tuple.__mul__» ⟨[.ref l, .int x u], []⟩) (fun _ R s => s.heap.get? l = some { cls := .type "tuple", dict := dd, data := .seq items n, slots := sl } ∧
      R (.ok (.ret (Value.ref s.heap.objs.size))) { s with heap := s.heap.push { cls := Value.type "tuple", data := Data.seq #[] }, toks := s.toks }) :=
  .of_wp fun prog w A R s h => by
    obtain ⟨hp, g, d, tk, os⟩ := s
    obtain ⟨hl, h⟩ := h
    have f1 := AutoSeq1.idx_int
    wp_walk using wpAny_loadPart' hl
    repeat (first
      | (refine wpAny_ite_false (decide_eq_false (by rw [c0]; exact Bool.false_ne_true)) ?_; wp_walk using wpAny_loadPart' hl)
      | (refine wpAny_ite_false (decide_eq_false (by rw [c1]; exact Bool.false_ne_true)) ?_; wp_walk using wpAny_loadPart' hl)
      | (refine wpAny_ite_true (decide_eq_true (by rw [c2])) ?_; wp_walk using wpAny_loadPart' hl))
    all_goals exact ⟨_, rfl, h⟩
def rRepA (K : W.Frag) : R2 := fun x y H Q => ∃ l k xs, x = .ref l ∧ y = .int k ∧ SqT K H l xs ∧ -1000 ≤ k ∧ k ≤ 1000 ∧ xs.length ≤ 1000 ∧ ((xs = [] ∨ k = 1) → Q (.ref l) H) ∧ ((xs ≠ [] ∧ k ≠ 1) → ∀ p, H p = none → Q (.ref p) (upd H p (.tup (List.replicate k.toNat xs).flatten)))
theorem op_repA {X : Cx} : OpR X (binaryOp .Mult) (rRepA X.K) := by
  intro pins s σ H x y v u Q I rx ry h
  obtain ⟨l, k, xs, rfl, rfl, hT, h1, h2, hz, q1, q2⟩ := h
  by_cases big : xs ≠ [] ∧ 2 ≤ k
  · exact op_repT pins s σ H _ _ v u Q I rx ry ⟨l, k, xs, rfl, rfl, hT, big.1, big.2, h2, hz, q2 ⟨big.1, by omega⟩⟩
  cases rx
  obtain ⟨t, rfl⟩ := ry
  obtain ⟨its, r, ⟨⟨cls, dd, data, sl⟩, ho, hc, n, hd⟩, hs⟩ := I.tuple hT
  simp only at hc hd
  subst hc hd
  have hle : its.length = xs.length := r.length.symm
  have c0 : (decide (k < -(2 ^ 63)) || decide (k ≥ 2 ^ 63)) = false := by
    rw [decide_eq_false (by omega), decide_eq_false (by omega)] <;> rfl
  have em : its.toArray.isEmpty = decide (xs = []) := by
    cases xs with
    | nil =>
      have e : its = [] := List.eq_nil_of_length_eq_zero (by simpa using hle)
      rw [e]; rfl
    | cons a b =>
      cases its with
      | nil => simp at hle
      | cons c d => rfl
  by_cases same : xs = [] ∨ k = 1
  · have c1 : (its.toArray.isEmpty || k == 1) = true := by
      rw [em]
      rcases same with e | e
      · rw [decide_eq_true e]; rfl
      · rw [e]; simp
    exact wpAny_binaryOp_repeat_ref (T := "tuple") (U := "int") (by decide) ⟨_, ho, rfl⟩ (fun s' => typeIs_int s' k t) noFill_tuple_mul PySem.F.fills_int_mul PySem.F.slot_int_rmul repeat_tuple PySem.F.slot_int_index.lookup
      (call_meets PySem.F.slot_int_rmul (typeIs_int s k t) PySem.F.entry_int_rmul (PySem.F.args_int_rmul_2 _ _) (int_rmul_tuple k t l its.toArray n dd sl)
        ⟨ho, rfl, ⟨_, ho, rfl⟩, call_meets PySem.F.slot_tuple_mul ⟨_, ho, rfl⟩ PySem.F.entry_tuple_mul (PySem.F.args_tuple_mul_2 _ _) (tuple_mul_same l its.toArray n dd sl k t c0 c1) ⟨ho, .ref l, H, I, rfl, q1 same⟩⟩)
  · have ne : xs ≠ [] := fun e => same (.inl e)
    have k1 : k ≠ 1 := fun e => same (.inr e)
    have k0 : k ≤ 0 := by
      rcases Int.lt_or_le 0 k with h | h
      · exact absurd ⟨ne, by omega⟩ big
      · exact h
    have c1 : (its.toArray.isEmpty || k == 1) = false := by
      rw [em, decide_eq_false ne, Bool.false_or]
      exact beq_eq_false_iff_ne.mpr k1
    have c2 : (decide (k ≤ 0) || its.toArray.isEmpty) = true := by rw [decide_eq_true k0]; rfl
    have q := q2 ⟨ne, k1⟩
    rw [show k.toNat = 0 by omega] at q
    refine wpAny_binaryOp_repeat_ref (T := "tuple") (U := "int") (by decide) ⟨_, ho, rfl⟩ (fun s' => typeIs_int s' k t) noFill_tuple_mul PySem.F.fills_int_mul PySem.F.slot_int_rmul repeat_tuple PySem.F.slot_int_index.lookup
      (call_meets PySem.F.slot_int_rmul (typeIs_int s k t) PySem.F.entry_int_rmul (PySem.F.args_int_rmul_2 _ _) (int_rmul_tuple k t l its.toArray n dd sl)
        ⟨ho, rfl, ⟨_, ho, rfl⟩, call_meets PySem.F.slot_tuple_mul ⟨_, ho, rfl⟩ PySem.F.entry_tuple_mul (PySem.F.args_tuple_mul_2 _ _) (tuple_mul_nil l its.toArray n dd sl k t c0 c1 c2) ⟨ho, ?_⟩⟩)
    refine ⟨.ref s.heap.objs.size, _, I.laid (t' := s.toks) (o := .tup []) (fun b ob q => Heap.get?_push_of_some _ q) (Nat.le_refl _) ?_, rfl, q _ (I.hok.fresh (Nat.le_refl _))⟩
    exact ⟨Nat.zero_le _, [], .nil, IsTup.new _ _⟩
/-! ### o * o of one own class, ~o -/
def rBinC (C : Addr) (sp : Sp) (E : XK) : R2 := fun x y H Q => ∃ (a dx : Addr) (fs : List (Str × V)) (b dy : Addr) (gs : List (Str × V)), x = .ref a ∧ y = .ref b ∧ H a = some (.ins C dx fs) ∧ H b = some (.ins C dy gs) ∧ sp [x, y] H (fun v H' => (∃ r, v = .ref r) ∧ Q v H') E
theorem op_mulOwn {X : Cx} {n : Nat} {CX : CXT} {C f : Addr} {fd : FuncData} {ps : List Str} {sp : Sp} {E : XK} (F : FnOk X.prog X.w X.K X.mg X.base CX n f fd ps sp)
    (hc : W.selfFirst X.K C = true) (hs : W.findIn X.K (Value.ref C) (Str.ofString "__mul__") = some (some (Value.ref f))) (hf : W.isFn X.K (Value.ref f) = true) (hb : Binds X.K fd ps []) (hx : Passes CX X E) (hr : Room n X.A) : OpR X (binaryOp .Mult) (rBinC C sp E) := by
  rintro pins s σ H x y v u Q I rx ry ⟨a, dx, fs, b, dy, gs, rfl, rfl, ha, hbb, hsp⟩
  cases rx
  cases ry
  obtain ⟨mA, J, _⟩ := ins_get I.hok ha
  obtain ⟨od, J, _⟩ := ObjM.look J
  obtain ⟨mB, JB, _⟩ := ins_get I.hok hbb
  obtain ⟨odB, JB, _⟩ := ObjM.look JB
  obtain ⟨m, hF⟩ := Inv.fr I
  refine W.binop_K hF I.ok.mod.kin J JB.type hc hs hf ?_
  have hl := F.len _ _ _ _ hsp
  have r2 : Vals [V.ref a, V.ref b] [Value.ref a, Value.ref b] := Paired.cons rfl (Paired.cons rfl Paired.nil)
  have bi := hb s [Value.ref a, Value.ref b] I.kIn (by simpa using hl)
  rw [List.append_nil] at bi
  refine wpAny_call (codeAny_mono (F.run X.A X.stack s H { pos := [Value.ref a, Value.ref b] } [Value.ref a, Value.ref b] [V.ref a, V.ref b] _ E hr I.env0 bi r2 hsp) fun r s' hq => ?_)
  cases r with
  | error e => exact hx pins σ H s e s' I hq
  | ok fl =>
    cases fl with
    | ret w =>
      obtain ⟨z, H', I', rz, ⟨r, ez⟩, q⟩ := Inv.after I hq
      subst ez
      cases rz
      exact ⟨.ref r, H', I', rfl, q⟩
    | _ => exact hq.elim
def rInvC (C : Addr) (sp : Sp) (E : XK) : V → Hp → VK → Prop := fun x H Q => ∃ (a dx : Addr) (fs : List (Str × V)), x = .ref a ∧ H a = some (.ins C dx fs) ∧ sp [x] H Q E
theorem un_invOwn {X : Cx} {n : Nat} {CX : CXT} {C f : Addr} {fd : FuncData} {ps : List Str} {sp : Sp} {E : XK} (F : FnOk X.prog X.w X.K X.mg X.base CX n f fd ps sp)
    (hs : W.findIn X.K (Value.ref C) (Str.ofString "__invert__") = some (some (Value.ref f))) (hf : W.isFn X.K (Value.ref f) = true) (hb : Binds X.K fd ps []) (hx : Passes CX X E) (hr : Room n X.A) : UnR X (unaryOp .Invert) (rInvC C sp E) := by
  rintro pins s σ H x v Q I rx ⟨a, dx, fs, rfl, ha, hsp⟩
  cases rx
  obtain ⟨mA, J, _⟩ := ins_get I.hok ha
  obtain ⟨od, J, _⟩ := ObjM.look J
  obtain ⟨m, hF⟩ := Inv.fr I
  unfold unaryOp
  refine wpAny_holding ?_
  have hl := F.len _ _ _ _ hsp
  have r2 : Vals [V.ref a] [Value.ref a] := Paired.cons rfl Paired.nil
  have bi := hb s [Value.ref a] I.kIn (by simpa using hl)
  rw [List.append_nil] at bi
  refine wpAny_bind (m := callSpecial? (.ref a) (Str.ofString "__invert__")) (W.special_fn I.kIn J hs (beq_iff_eq.mp hf) ?_)
  refine wpAny_call (codeAny_mono (F.run X.A X.stack s H { pos := [Value.ref a] } [Value.ref a] [V.ref a] _ E hr I.env0 bi r2 hsp) fun r s' hq => ?_)
  cases r with
  | error e => exact hx pins σ H s e s' I hq
  | ok fl =>
    cases fl with
    | ret w =>
      obtain ⟨z, H', I', rz, q⟩ := Inv.after I hq
      exact wpAny_pure ⟨z, H', I', rz, q⟩
    | _ => exact hq.elim
end Ow

set_option Elab.async false
set_option linter.all false
set_option maxRecDepth 100000
set_option maxHeartbeats 2000000
namespace Er
open PySem PySem.Spec PyProof.Rows L2 Sx
/-! ### methods and classes whose call may raise -/
def tMethS (C : Addr) (m : Str) (sp : Sp) (E : L2.St → XK) (ta : TE) (t : TA) : TE := fun σ H Q => ta σ H fun x H1 => ∃ a dx fs, x = .ref a ∧ H1 a = some (.ins C dx fs) ∧ fs.lookup m = none ∧ t σ H1 fun vs H2 => sp (x :: vs) H2 Q (E σ)
def tMakeS (C : Addr) (sp : Sp) (E : L2.St → XK) (t : TA) : TE := fun σ H Q => t σ H fun vs H1 => ∀ x dx, H1 x = none → H1 dx = none → dx ≠ x → sp (.ref x :: vs) (upd (upd H1 dx (.own x)) x (.ins C dx [])) (fun v H2 => v = .non ∧ Q (.ref x) H2) (E σ)
section
variable {X : Cx} {CX : CXT} {k : Nat} {f C : Addr} {fd : FuncData} {ps : List Str} {sp : Sp} {E : L2.St → XK} {x m : Str} {p pos apos : Pos} {e o : Expr} {es : List Expr} {ta : TE} {t : TA}
end
section
variable {H : Hp} {Q : VK} {σ : L2.St} {te : TE} {C : Addr}
def MethKS (C : Addr) (m : Str) (sp : Sp) (E : XK) (t : TA) (σ : L2.St) (x : V) (H : Hp) (Q : VK) : Prop := ∃ a dx fs, x = .ref a ∧ H a = some (.ins C dx fs) ∧ fs.lookup m = none ∧ t σ H fun vs H2 => sp (x :: vs) H2 Q E
theorem x_methS {m : Str} {sp : Sp} {E : L2.St → XK} {t : TA} (k : te σ H fun x H1 => MethKS C m sp (E σ) t σ x H1 Q) : tMethS C m sp E te t σ H Q := k
theorem x_makeS {sp : Sp} {E : L2.St → XK} {t : TA} (k : t σ H fun vs H1 => ∀ x dx, H1 x = none → H1 dx = none → dx ≠ x → sp (.ref x :: vs) (upd (upd H1 dx (.own x)) x (.ins C dx [])) (fun v H2 => v = .non ∧ Q (.ref x) H2) (E σ)) : tMakeS C sp E t σ H Q := k
theorem x_isN {x : V} (k : Q (.bl (decide (x = .non))) H) : (fun (x y : V) (H : Hp) (Q : VK) => y = .non ∧ Q (.bl (decide (x = .non))) H) x .non H Q := ⟨rfl, k⟩
end
end Er

set_option Elab.async false
set_option linter.all false
set_option maxRecDepth 100000
set_option maxHeartbeats 2000000
/-! a lambda handed to a def that calls it where an error may come -/
namespace Er
open PySem PySem.Spec PyProof.Rows L2 Sx
section
variable {X : Cx}
/-- the body of a lambda, entered at s: an error E may leave it -/
abbrev lamN (X : Cx) (A : Around) (outer : List Env) (s : Shared) (H : Hp) (E : XK) (scope : Scope) (f c' : Addr) : Cx :=
  (LamX.lamCx X A outer s H E scope f c').wish fun e s' => wpAny (model X.prog X.w) (A.deeper (LamX.lamEnv X scope s.heap.objs.size f c')) (leaving (LamX.lamEnv X scope s.heap.objs.size f c') e)
    (fun _ s'' => L2N.CX X.prog X.w outer H s E e s'') (fun e' s'' => L2N.CX X.prog X.w outer H s E e' s'') s'
/-- what the def that was handed the lambda stands in -/
abbrev hrd (P : Program) (w : World) (K : PySem.W.Frag) (mg : Str → Option Value) (base : Heap) (A : Around) (st : List Env) (N : List Str) (q : Str) (sg : Scope) (g : Addr) (cd : Value) (s : Shared) (H : Hp) : Cx := cxOf C8.CX0 P w K mg base N q sg g cd A st s H C8.E0
/-- a() is the lambda's reading tb; its errors are W's, at the state where it is called -/
def Act (Z : Cx) (a : Str) (f c' : Addr) (q : Str) (tb : XK → Hp → VK → Prop) : Prop :=
  ∀ (W : WX) (pn : List (Addr × Obj)) (xe : Value → Shared → Prop) (p1 p2 : Pos), L2N.Takes (Z.tr pn xe) W →
    PE (Z.tr pn xe) (.Call (.Name a p1) [] [] p2) (fun σZ HZ Q => σZ[0]? = some (some (.ref f)) ∧ HZ c' = some (LamX.CodeO c' q) ∧ tb (fun cls d H' => W cls d σZ H') HZ Q)
/-- the def that calls what it was handed -/
def Hears (P : Program) (w : World) (K : PySem.W.Frag) (mg : Str → Option Value) (base : Heap) (A : Around) (st : List Env) (N : List Str) (x : Str) (sg : Scope) (g : Addr) (cd : Value) (bg : List Stmt) (a : Str) (q : Str) (TT : (XK → Hp → VK → Prop) → Hp → VK → Prop) : Prop :=
  ∀ (f c' : Addr) (s : Shared) (H : Hp) (Q : VK) (tl : XK → Hp → VK → Prop), Act (hrd P w K mg base A st N x sg g cd s H) a f c' q tl → H c' = some (LamX.CodeO c' q) → TT tl H Q →
    ∃ t, PSs (hrd P w K mg base A st N x sg g cd s H).nox bg t ∧ t { nx := fun _ H' => Q .non H', rt := Q } (L2.start N [.ref f]) H
end
end Er

set_option Elab.async false
set_option linter.all false
set_option maxRecDepth 100000
set_option maxHeartbeats 2000000
namespace Ow
open PySem PySem.Spec PyProof.Rows L2 ItX Sx RT
section
variable {K : W.Frag} {H H1 : Hp} {Q : VK} {a b l C dx : Addr} {xs ys : List V} {σ : L2.St} {te : TE} {t : TT} {fs gs : List (Str × V)}
theorem x_catA (h : H a = some (.tup xs)) (h' : H b = some (.tup ys)) (l : xs.length + ys.length ≤ sizeLine) (k : ∀ p H1, Ex H H1 → H1 p = some (.tup (xs ++ ys)) → Q (.ref p) H1) : rCatA K (.ref a) (.ref b) H Q :=
  ⟨a, b, xs, ys, rfl, rfl, SqT.of h, SqT.of h', l, fun e => k b H (Ex.refl _) (by rw [e, List.nil_append]; exact h'), fun _ e => k a H (Ex.refl _) (by rw [e, List.append_nil]; exact h), fun _ _ p hp => k p _ (Ex.new hp) upd_same⟩
theorem x_slA {lo hi : Option Int} (h : H a = some (.tup xs)) (k : ∀ p H1, Ex H H1 → H1 p = some (.tup (cutV xs lo hi)) → Q (.ref p) H1) : rSlA K (.ref a) lo hi H Q :=
  ⟨a, xs, rfl, SqT.of h, fun e => k a H (Ex.refl _) (by unfold cutV; rw [e.1, e.2, List.drop_zero, Nat.sub_zero, List.take_of_length_le (Nat.le_refl _)]; exact h), fun _ p hp => k p _ (Ex.new hp) upd_same⟩
theorem x_repA {n : Int} (h : H a = some (.tup xs)) (h1 : -1000 ≤ n) (h2 : n ≤ 1000) (hl : xs.length ≤ 1000) (k : ∀ p H1, Ex H H1 → H1 p = some (.tup (List.replicate n.toNat xs).flatten) → Q (.ref p) H1) : rRepA K (.ref a) (.int n) H Q := by
  refine ⟨a, n, xs, rfl, rfl, SqT.of h, h1, h2, hl, fun e => k a H (Ex.refl _) ?_, fun _ p hp => k p _ (Ex.new hp) upd_same⟩
  rcases e with e | e
  · rw [h, e]
    congr 2
    induction n.toNat with
    | zero => rfl
    | succ m ih => rw [List.replicate_succ, List.flatten_cons, ← ih]; rfl
  · rw [h, e]
    simp
theorem x_invC {sp : Sp} {E : XK} (hp : H a = some (.ins C dx fs)) (k : sp [.ref a] H Q E) : rInvC C sp E (.ref a) H Q := ⟨a, dx, fs, rfl, hp, k⟩
theorem x_binC {sp : Sp} {E : XK} {dy : Addr} (hp : H a = some (.ins C dx fs)) (hq : H b = some (.ins C dy gs)) (k : sp [.ref a, .ref b] H (fun v H' => (∃ r, v = .ref r) ∧ Q v H') E) : rBinC C sp E (.ref a) (.ref b) H Q := ⟨a, dx, fs, b, dy, gs, rfl, rfl, hp, hq, k⟩
/-- reversed(a tuple) -/
def RevK (K : W.Frag) (x : V) (H1 : Hp) (R : It → Hp → Prop) : Prop := ∃ (a : Addr) (xs : List V), x = .ref a ∧ ((SqL K H1 a xs ∧ R (Itv K a xs.length) H1) ∨ (SqT K H1 a xs ∧ R (ItvT K a xs.length) H1))
theorem x_iRev {R : It → Hp → Prop} (k : te σ H fun x H1 => RevK K x H1 R) : iRevA K te σ H R := k
theorem lc_rev {j : Nat} {vs : List Nat} (hx : H1 a = some (.tup xs)) (I : Nat → List V → Hp → Prop) (h0 : I 0 [] H1) (mono : ∀ i acc H H', Tx H H' → I i acc H → I i acc H') (nb : ∀ i acc H, I i acc H → NB (.lst acc) ∧ acc.length < sizeLine)
    (hw : ∀ x, wipe ((wipe σ vs).set j (some x)) vs = wipe σ vs)
    (turn : ∀ (i : Nat) x acc H', xs.reverse[i]? = some x → Ex H1 H' → I i acc H' → ∀ kk : Option V → Hp → Prop, (∀ y H4, Ex H' H4 → I (i + 1) (acc ++ [y]) H4 → kk (some y) H4) → (∀ H4, Ex H' H4 → I (i + 1) acc H4 → kk none H4) →
      t ((wipe σ vs).set j (some x)) H' fun b H3 => if b = true then te ((wipe σ vs).set j (some x)) H3 (fun y H4 => kk (some y) H4) else kk none H3)
    (k : ∀ p ys H2, Ex H1 H2 → H1 p = none → H2 p = some (.lst ys) → I xs.length ys H2 → Q (.ref p) H2) : RevK K (.ref a) H1 fun J H2 => LcGo J (gName j) t te vs σ H2 Q := by
  have hq : ∀ H', Ex H1 H' → SqT K H' a xs := fun H' e => SqT.of (e.kp _ _ hx NB.tup)
  refine ⟨a, xs, rfl, .inr ⟨SqT.of hx, lc_any (n := xs.length) I h0 mono nb (fun i H' hi e => ⟨hi, xs, xs[xs.length - 1 - i], hq H' e, by simp⟩) (fun H' e => Nat.le_refl _) (fun i acc x H' H'' hi e q y kk k1 k2 => ?_) k⟩⟩
  obtain ⟨rfl, y⟩ := y
  refine ⟨hw _, turn i x acc _ ?_ e q kk k1 k2⟩
  rw [List.getElem?_reverse hi]
  exact y xs (hq _ e)
end
theorem x_iteMD {c : Prop} [Decidable c] {ta tb : TE} {σ : L2.St} {H1 : Hp} {Q : VK} (R : V → Hp → Prop) (kA : c → ∀ (Q' : VK), (∀ v H2, R v H2 → Q' v H2) → ta σ H1 Q') (kB : ¬ c → ∀ (Q' : VK), (∀ v H2, R v H2 → Q' v H2) → tb σ H1 Q') (k : ∀ v H2, R v H2 → Q v H2) : if decide c = true then ta σ H1 Q else tb σ H1 Q := by
  by_cases h : c
  · rw [decide_eq_true h, if_pos rfl]; exact kA h Q k
  · rw [decide_eq_false h, if_neg Bool.false_ne_true]; exact kB h Q k
section
variable {X : Cx} {sB : Shared} {HB : Hp} {scope : Scope} {cenv : Env} {fp : List Addr} {e : Expr} {ta : TE} {f : Str} {pos : Pos}
end
end Ow

set_option Elab.async false
set_option linter.all false
set_option maxRecDepth 100000
set_option maxHeartbeats 2000000
/-! what stays where lambdas are made: the tables of code objects grow -/
namespace Er
open PySem PySem.Spec PyProof.Rows L2 Sx
/-- all but bags and tables stands as it stood, bags are bags, the tables T are tables -/
structure Ew (T : List (Addr × Str)) (H H' : Hp) : Prop where
  kp : ∀ a o, H a = some o → NB o → (∀ ps, o ≠ .tbl ps) → H' a = some o
  bg : ∀ b c, BagC b c H → BagC b c H'
  tb : LamX.Tabs T H → LamX.Tabs T H'
theorem NB.tbl {ps : Array Value} : NB (.tbl ps) := fun _ _ _ _ h => nomatch h
theorem codeO_nb {c : Addr} {q : Str} : NB (LamX.CodeO c q) := Ow.NB.ext
section
variable {T : List (Addr × Str)} {H H1 H2 : Hp} {p a b c l P : Addr} {q : Str} {o : HO} {xs : List V}
theorem Ex.tabS (e : Ex H H1) (t : LamX.TabS H P q) : LamX.TabS H1 P q := by
  obtain ⟨ps, h1, h2, h3⟩ := t
  refine ⟨ps, e.kp _ _ h1 NB.tbl, h2, fun pos cv hc => ?_⟩
  obtain ⟨c, e1, e2⟩ := h3 pos cv hc
  exact ⟨c, e1, e.kp _ _ e2 codeO_nb⟩
theorem Ew.of (e : Ex H H1) : Ew T H H1 := ⟨fun a o h n _ => e.kp a o h n, e.bg, fun t p hp => Ex.tabS e (t p hp)⟩
theorem Ew.refl : Ew T H H := ⟨fun _ _ h _ _ => h, fun _ _ h => h, fun h => h⟩
theorem Ew.trans (e : Ew T H H1) (f : Ew T H1 H2) : Ew T H H2 := ⟨fun a o h n t => f.kp a o (e.kp a o h n t) n t, fun b c h => f.bg b c (e.bg b c h), fun t => f.tb (e.tb t)⟩
theorem Ew.bag (e : Ew T H H1) (h : Bag b H) : Bag b H1 := let ⟨c, q⟩ := h; ⟨c, e.bg b c q⟩
theorem Ew.tup (e : Ew T H H1) (h : H a = some (.tup xs)) : H1 a = some (.tup xs) := e.kp _ _ h NB.tup (fun _ h => nomatch h)
theorem Ew.lst (e : Ew T H H1) (h : H a = some (.lst xs)) (n : NB (.lst xs)) : H1 a = some (.lst xs) := e.kp _ _ h n (fun _ h => nomatch h)
theorem Ew.ins {C dx : Addr} {fs : List (Str × V)} (e : Ew T H H1) (h : H a = some (.ins C dx fs)) : H1 a = some (.ins C dx fs) := e.kp _ _ h NB.ins (fun _ h => nomatch h)
theorem Ew.dK {kvs : List (Key × V)} (e : Ew T H H1) (h : H a = some (.dK kvs)) : H1 a = some (.dK kvs) := e.kp _ _ h NB.dK (fun _ h => nomatch h)
/-- a list made in between may be changed -/
theorem Ew.mut (e : Ew T H H1) (h : H l = none) (hl : H1 l = some (.lst xs)) : Ew T H (upd H1 l o) := by
  refine ⟨fun a o' q n t => ?_, fun b c q => ?_, fun t p hp => ?_⟩
  · rw [upd_ne (ne_of_none q h)]
    exact e.kp a o' q n t
  · obtain ⟨x0, y0, z0, ns0, k1, k2, _⟩ := id q
    obtain ⟨x, y, z, ns, e1, e2, r⟩ := e.bg b c q
    exact ⟨x, y, z, ns, by rw [upd_ne (ne_of_none k1 h)]; exact e1, by rw [upd_ne (ne_of_none k2 h)]; exact e2, r⟩
  · obtain ⟨ps0, k0, _⟩ := t p hp
    obtain ⟨ps, h1, h2, h3⟩ := e.tb t p hp
    refine ⟨ps, by rw [upd_ne (ne_of_none k0 h)]; exact h1, h2, fun pos cv hc => ?_⟩
    obtain ⟨c, e1, e2⟩ := h3 pos cv hc
    have nl : c ≠ l := by
      intro z
      subst z
      rw [hl] at e2
      exact nomatch (Option.some.inj e2)
    exact ⟨c, e1, by rw [upd_ne nl]; exact e2⟩
variable {TT : (XK → Hp → VK → Prop) → Hp → VK → Prop} {t : XK → TE} {σ : L2.St} {Q : VK}
end
end Er
namespace Er
open PySem PySem.Spec PyProof.Rows L2 Sx
/-! ### how often a truth stands in a list of truths -/
def isB (b : Bool) : Value → Bool
  | .bool c => c == b
  | _ => false
def rCntB (K : PySem.W.Frag) : V → List V → Hp → VK → Prop := fun x xs H Q => ∃ (p : Addr) (bs : List Bool) (b : Bool), x = .ref p ∧ xs = [.bl b] ∧ SqL K H p (bs.map V.bl) ∧ Q (.int (bs.count b : Nat)) H
end Er
namespace Er
open PySem PySem.Spec PyProof.Rows L2 Sx
/-! ### what names K, within the suite of an except -/
section
variable {X : Cx} {z : Addr} {pn : List (Addr × Obj)} {T : String} {name : Str} {id : String} {r : V → List V → Hp → VK → Prop} {o e : Expr} {es : List Expr} {to : TE} {t : TA} {apos cpos : Pos}
end
end Er

set_option Elab.async false
set_option linter.all false
set_option maxRecDepth 100000
set_option maxHeartbeats 2000000
/-! the end of a law that shows data and makes lambdas -/
namespace Er
open PySem PySem.Spec PyProof.Rows L2 Sx Ow
section
variable {P : Program} {w : World} {K : PySem.W.Frag} {mg mb : Str → Option Value} {k : Nat} {fa a : Addr} {fd : FuncData} {x : Str} {sp : Sp} {s : Shared} {vs : List Value} {ns : List Int} {cs : List (Addr × Addr)}
abbrev tab0 : Obj := { cls := .none, data := .fields #[] }
/-- the abstract heap of the tables alone -/
def HT (cs : List (Addr × Addr)) : Hp := fun b => if b ∈ cs.map (·.2) then some (.tbl #[]) else none
theorem HT.at_ {p : Addr × Addr} (h : p ∈ cs) : HT cs p.2 = some (.tbl #[]) := if_pos (List.mem_map.mpr ⟨p, h, rfl⟩)
theorem HT.some {b : Addr} {u : HO} (h : HT cs b = .some u) : (∃ p ∈ cs, p.2 = b) ∧ u = .tbl #[] := by
  unfold HT at h
  split at h
  · next m =>
    obtain ⟨p, hp, e⟩ := List.mem_map.mp m
    exact ⟨⟨p, hp, e⟩, (Option.some.inj h).symm⟩
  · cases h
theorem HT.none {b : Addr} (h : ∀ p ∈ cs, p.2 ≠ b) : HT cs b = .none := if_neg fun m => by
  obtain ⟨p, hp, e⟩ := List.mem_map.mp m
  exact h p hp e
end
end Er

set_option Elab.async false
set_option linter.all false
set_option maxRecDepth 100000
set_option maxHeartbeats 2000000
/-! a def whose code object is known: it makes lambdas -/
namespace Er
open PySem PySem.Spec PyProof.Rows L2 Sx Ow
structure FunC (K : PySem.W.Frag) (x qual : Str) (st : Stmt) (f c : Addr) (fd : FuncData) : Prop where
  ex : ∃ (oc : Value) (od : Option Addr) (kV doc pm : Value) (an : Option Addr) (ct : Value) (osl : Array (Option Value)),
    fd = PySem.W.fnOf x qual (defArgs st) (defBody st) (defScope st) .none kV doc pm an (.ref c) ct ∧ K.lookup f = some ⟨oc, od, .func fd, osl⟩ ∧ PySem.W.codeIn K (.ref c) qual = true
section
variable {P : Program} {w : World} {K : PySem.W.Frag} {mg : Str → Option Value} {base : Heap} {k : Nat} {f c : Addr} {fd : FuncData} {ps N : List Str} {sp : Sp} {x qual : Str} {st : Stmt}
end
end Er

set_option Elab.async false
set_option linter.all false
set_option maxRecDepth 100000
set_option maxHeartbeats 2000000
/-! a dict is no tuple and no list; range(a, b); enumerate; continue; errors of two fields -/
namespace PySem.SeqAt
open AutoSeq1 (wpAny_loadPart')
open MeetsSeq
end PySem.SeqAt
namespace Er
open PySem PySem.Spec PyProof.Rows L2 Sx
section
variable {prog : Program} {w : World} {A : Around} {E : Value → Shared → Prop} {s : Shared} {a b : Addr} {items : Array Value}
end
section
variable {X : Cx}
/-- a dict and a tuple or list are never equal -/
def rEqDf (K : PySem.W.Frag) : R2 := fun x y H Q => ∃ a b kvs, x = .ref a ∧ y = .ref b ∧ H a = some (.dK kvs) ∧ ((∃ xs, SqT K H b xs) ∨ ∃ xs, SqL K H b xs) ∧ Q (.bl false) H
def rEqW (K : PySem.W.Frag) : R2 := fun x y H Q => rEqAny K x y H Q ∨ rEqDf K x y H Q
end
/-! range(a, b), enumerate, continue -/
section
variable {H H' H1 H2 : Hp} {p a b c l : Addr} {o u : HO} {K : PySem.W.Frag} {σ : L2.St} {Q : VK} {v w : V} {D : Ends} {t : TT} {ta tb te : TE}
def R2K (xs : List V) (H1 : Hp) (R : It → Hp → Prop) : Prop := ∃ i j : Int, xs = [.int i, .int j] ∧ (-(2 ^ 62) ≤ i ∧ i < 2 ^ 62 ∧ -(2 ^ 62) ≤ j ∧ j < 2 ^ 62) ∧ R (Itr i (j - i).toNat) H1
theorem x_iR2 {a : TA} {R : It → Hp → Prop} (k : a σ H fun xs H1 => R2K xs H1 R) : iRng2 a σ H R := k
def EnK (K : PySem.W.Frag) (vs : List V) (H1 : Hp) (R : It → Hp → Prop) : Prop := ∃ a xs, vs = [.ref a] ∧ SqL K H1 a xs ∧ R (Ite K a) H1
theorem x_iEn {a : TA} {R : It → Hp → Prop} (k : a σ H fun xs H1 => EnK K xs H1 R) : iEnum K a σ H R := k
theorem x_cont (k : D.ct σ H) : tCont D σ H := k
end
/-! errors of two fields -/
section
variable {K : PySem.W.Frag} {σ : L2.St} {H H1 H2 : Hp} {Q : VK} {E : XK} {C a p : Addr} {f g : Str} {v y z : V} {D : Ends} {te : TE}
def sp_init2 (C : Addr) (f g : Str) : Sp := fun vs H Q _ => ∃ (a : Addr) (y z : V), vs = [.ref a, y, z] ∧ H a = some (exo a C none) ∧
  ∀ dx, H dx = none → dx ≠ a → Q .non (upd (upd H dx (exd dx [(g, z), (f, y)])) a (exo a C (some dx)))
end
/-! is True, is False, of truths -/
def rIsB : R2 := fun x y H Q => ∃ a b, x = .bl a ∧ y = .bl b ∧ Q (.bl (decide (a = b))) H
def rIsNB : R2 := fun x y H Q => ∃ a b, x = .bl a ∧ y = .bl b ∧ Q (.bl (!decide (a = b))) H
theorem x_isB {a b : Bool} {H : Hp} {Q : VK} (k : Q (.bl (decide (a = b))) H) : rIsB (.bl a) (.bl b) H Q := ⟨a, b, rfl, rfl, k⟩
theorem x_isNB {a b : Bool} {H : Hp} {Q : VK} (k : Q (.bl (!decide (a = b))) H) : rIsNB (.bl a) (.bl b) H Q := ⟨a, b, rfl, rfl, k⟩
theorem x_isBt {a b : Bool} {H : Hp} {Q : VK} (h : a = b) (k : Q (.bl true) H) : rIsB (.bl a) (.bl b) H Q := x_isB (by rw [h, decide_eq_true rfl]; exact k)
theorem x_isBf {a b : Bool} {H : Hp} {Q : VK} (h : a = !b) (k : Q (.bl false) H) : rIsB (.bl a) (.bl b) H Q := x_isB (by rw [h, show decide ((!b) = b) = false from by cases b <;> rfl]; exact k)
theorem x_isNBf {a b : Bool} {H : Hp} {Q : VK} (h : a = b) (k : Q (.bl false) H) : rIsNB (.bl a) (.bl b) H Q := x_isNB (by rw [h, decide_eq_true rfl]; exact k)
theorem x_isNBt {a b : Bool} {H : Hp} {Q : VK} (h : a = !b) (k : Q (.bl true) H) : rIsNB (.bl a) (.bl b) H Q := x_isNB (by rw [h, show decide ((!b) = b) = false from by cases b <;> rfl]; exact k)
/-! fresh: no object that stays was there -/
section
variable {H H1 H2 : Hp} {l p : Addr} {o : HO}
def NF (H : Hp) (p : Addr) : Prop := ∀ o, NB o → H p ≠ some o
theorem NF.of (h : H p = none) : NF H p := fun o _ q => by rw [h] at q; cases q
theorem NF.back (e : Ex H H1) (h : NF H1 p) : NF H p := fun o n q => h o n (e.kp _ _ q n)
theorem NF.new (e : Ex H H1) (h : H1 p = none) : NF H p := .back e (.of h)
theorem mutN {xs : List V} (e : Ex H H1) (n : NF H l) (h : H1 l = some (.lst xs)) (nb : NB (.lst xs)) : Ex H (upd H1 l o) := by
  refine ⟨fun a o' q nn => ?_, fun b c q => ?_⟩
  · have hne : a ≠ l := fun ea => n o' nn (ea ▸ q)
    rw [upd_ne hne]
    exact e.kp a o' q nn
  · obtain ⟨x0, y0, z0, ns0, k1, k2, _⟩ := id q
    obtain ⟨x, y, z, ns, e1, e2, r⟩ := e.bg b c q
    have hb : b ≠ l := fun ea => by
      subst ea
      rw [h] at e1
      injection e1 with e1
      exact nb x y z c e1
    have hc : c ≠ l := fun ea => n _ NB.ints (ea ▸ k2)
    exact ⟨x, y, z, ns, by rw [upd_ne hb]; exact e1, by rw [upd_ne hc]; exact e2, r⟩
end
end Er

set_option Elab.async false
set_option maxRecDepth 100000
set_option maxHeartbeats 2000000
set_option linter.all false
/-! errors of the program held as values: made, asked for their class, read -/
namespace Er
open PySem PySem.Spec PyProof.Rows L2 Sx
section
variable {X : Cx} {CX : CXT} {x : Str} {C fI : Addr} {k : Nat} {fd : FuncData} {ps : List Str} {sp : Sp} {e : Expr} {es : List Expr} {ta : TA} {te : TE} {p pos : Pos}
/-- C(a, ..) as a value, C's own __init__ keeping sp -/
def ErrK (C : Addr) (sp : Sp) (vs : List V) (H1 : Hp) (Q : VK) : Prop := vs.length ≤ 1000 ∧ ∀ a, H1 a = none → sp (.ref a :: (vs ++ [])) (upd H1 a (exo a C none)) (fun v H2 => v = .non ∧ Q (.ref a) H2) (fun _ _ _ => False)
def tErr (C : Addr) (sp : Sp) (ta : TA) : TE := fun σ H Q => ta σ H fun vs H1 => ErrK C sp vs H1 Q
def tErr0 (C : Addr) : TE := fun _ H Q => ∀ a, H a = none → Q (.ref a) (upd H a (exo a C none))
/-- isinstance(e, c), e an error that is held as a value -/
def rIsE (K : PySem.W.Frag) : List V → Hp → VK → Prop := fun xs H Q =>
  ∃ (a D : Addr) (d : Option Addr) (c : V) (cv : Value) (b : Bool), XC K D ∧ H a = some (exo a D d) ∧ (d = none ∨ ∃ dd fs, d = some dd ∧ H dd = some (exd dd fs)) ∧
    xs = [.ref a, c] ∧ (∀ u, RelV c u → u = cv) ∧ PySem.W.kitOne K (.ref D) cv = some b ∧ Q (.bl b) H
/-- e.f, e an error that is held as a value -/
def EfK (K : PySem.W.Frag) (f : Str) (Q : VK) (x : V) (H1 : Hp) : Prop := ∃ (a C dd : Addr) (fs : List (Str × V)) (v : V), x = .ref a ∧ XC K C ∧ PySem.W.findIn K (.ref C) f = some none ∧ H1 a = some (exo a C (some dd)) ∧ H1 dd = some (exd dd fs) ∧ fs.lookup f = some v ∧ Q v H1
def tEf (K : PySem.W.Frag) (f : Str) (te : TE) : TE := fun σ H Q => te σ H (EfK K f Q)
end
/-! what the readings ask -/
section
variable {K : PySem.W.Frag} {σ : L2.St} {H H1 : Hp} {Q : VK} {C a dd : Addr} {f g : Str} {v y z : V} {ta : TA} {te : TE}
/-- an error as a value: the fields it holds -/
def ErrV (K : PySem.W.Frag) (H : Hp) (v : V) (C : Addr) (fs : List (Str × V)) : Prop := XC K C ∧ ∃ a, v = .ref a ∧ ((fs = [] ∧ H a = some (exo a C none)) ∨ ∃ dd, H a = some (exo a C (some dd)) ∧ H dd = some (exd dd fs))
theorem nb_exo {a C : Addr} {d : Option Addr} : NB (exo a C d) := fun _ _ _ _ h => by
  have h' : HO.ext _ = HO.lst _ := h
  cases h'
theorem nb_exd {a : Addr} {fs : List (Str × V)} : NB (exd a fs) := fun _ _ _ _ h => by
  have h' : HO.ext _ = HO.lst _ := h
  cases h'
theorem ErrV.mono {fs : List (Str × V)} (h : ErrV K H v C fs) (e : Ex H H1) : ErrV K H1 v C fs := by
  obtain ⟨t, a, rfl, h⟩ := h
  refine ⟨t, a, rfl, ?_⟩
  rcases h with ⟨z, h⟩ | ⟨dd, h1, h2⟩
  · exact .inl ⟨z, e.kp _ _ h nb_exo⟩
  · exact .inr ⟨dd, e.kp _ _ h1 nb_exo, e.kp _ _ h2 nb_exd⟩
/-- the classes are apart from one another; all are of v -/
def ktab (K : PySem.W.Frag) (cs : List Addr) : Bool := (List.range cs.length).all fun i => (List.range cs.length).all fun j => PySem.W.kitOne K (.ref (cs.getD i 0)) (.ref (cs.getD j 0)) == some (decide (i = j))
def kall (K : PySem.W.Frag) (cs : List Addr) (v : Value) : Bool := cs.all fun c => PySem.W.kitOne K (.ref c) v == some true
end
end Er

set_option Elab.async false
set_option maxRecDepth 100000
set_option maxHeartbeats 2000000
set_option linter.all false
/-! != of lists that hold the same things, of a dict and itself -/
namespace Er
open PySem PySem.Spec PyProof.Rows L2 Sx
def refB : V → Bool
  | .ref _ => true
  | v => flatB v
def rNeL (K : PySem.W.Frag) : R2 := fun x y H Q => ∃ a b xs, x = .ref a ∧ y = .ref b ∧ SqL K H a xs ∧ SqL K H b xs ∧ (∀ v ∈ xs, refB v = true) ∧ Q (.bl false) H
def rNeSelf : R2 := fun x y H Q => ∃ a kvs, x = .ref a ∧ y = .ref a ∧ H a = some (.dK kvs) ∧ (kvs.map (·.1)).Nodup ∧ (∀ p ∈ kvs, refB p.2 = true) ∧ Q (.bl false) H
def rNeX (K : PySem.W.Frag) : R2 := fun x y H Q => rNeD K x y H Q ∨ rNeL K x y H Q ∨ rNeSelf x y H Q
section
variable {K : PySem.W.Frag} {H1 : Hp} {a : Addr} {σ : L2.St} {D : Ends}
end
end Er

set_option Elab.async false
set_option linter.all false
set_option maxRecDepth 100000
set_option maxHeartbeats 2000000
/-! slices with a step: read and stored -/
namespace Er
open PySem PySem.Spec PyProof.Rows L2 Sx
/-- the places of a slice of a list of n items -/
def places (n : Nat) (lo hi st : Option Int) : List Nat := sliceRange (sliceBounds lo hi st n).1 (sliceBounds lo hi st n).2.1 (sliceBounds lo hi st n).2.2
def pickV (xs : List V) (lo hi st : Option Int) : List V := (places xs.length lo hi st).filterMap (xs[·]?)
def putV (xs : List V) (ks : List Nat) (ys : List V) : List V := (ks.zip ys).foldl (fun xs p => xs.set p.1 p.2) xs
theorem vals_pick {xs : List V} {us : List Value} (r : Vals xs us) (ks : List Nat) : Vals (ks.filterMap (xs[·]?)) (ks.filterMap (us[·]?)) := by
  induction ks with
  | nil => exact .nil
  | cons k ks ih =>
    have hl := r.length
    by_cases hk : k < xs.length
    · have e1 := List.getElem?_eq_getElem hk
      obtain ⟨u, e2, ru⟩ := r.get e1
      rw [List.filterMap_cons, List.filterMap_cons, e1, e2]
      exact .cons ru ih
    · rw [List.filterMap_cons, List.filterMap_cons, List.getElem?_eq_none (Nat.le_of_not_lt hk), List.getElem?_eq_none (by omega)]
      exact ih
theorem vals_put : ∀ {ks : List Nat} {xs ys : List V} {us ws : List Value}, Vals xs us → Vals ys ws → Vals (putV xs ks ys) ((ks.zip ws).foldl (fun xs p => xs.set p.1 p.2) us)
  | [], _, _, _, _, r, _ => r
  | _ :: _, _, [], _, [], r, _ => r
  | k :: ks, xs, y :: ys, us, w :: ws, r, .cons r1 t => vals_put (ks := ks) (r.set r1 k) t
theorem putV_length : ∀ (ks : List Nat) (xs ys : List V), (putV xs ks ys).length = xs.length
  | [], _, _ => rfl
  | _ :: _, _, [] => rfl
  | k :: ks, xs, y :: ys => (putV_length ks (xs.set k y) ys).trans List.length_set
theorem pick_len (xs : List V) (lo hi st : Option Int) : (pickV xs lo hi st).length ≤ xs.length := by
  have := slicePick_size_le (Array.replicate xs.length (Value.none)) lo hi st
  unfold slicePick at this
  rw [Array.size_replicate, List.size_toArray] at this
  refine Nat.le_trans ?_ this
  unfold pickV places
  generalize sliceRange _ _ _ = ks
  clear this
  induction ks with
  | nil => simp
  | cons k ks ih =>
    rw [List.filterMap_cons, List.filterMap_cons]
    by_cases hk : k < xs.length
    · rw [List.getElem?_eq_getElem hk, Array.getElem?_eq_getElem (by simpa using hk)]
      simpa using ih
    · rw [List.getElem?_eq_none (Nat.le_of_not_lt hk), Array.getElem?_eq_none (by simpa using hk)]
      exact ih
/-! xs[a:b:c] -/
def StepK (K : PySem.W.Frag) (x : V) (l u o : Option Int) (H : Hp) (Q : VK) : Prop := ∃ a xs, x = .ref a ∧ SqL K H a xs ∧ o ≠ some 0 ∧ ∀ p, H p = none → Q (.ref p) (upd H p (.lst (pickV xs l u o)))
def tStepL (K : PySem.W.Frag) (te : TE) (tl th ts : TO) : TE := fun σ H Q => te σ H fun x H1 => tl σ H1 fun l H2 => th σ H2 fun u H3 => ts σ H3 fun o H4 => StepK K x l u o H4 Q
section
variable {X : Cx}
theorem pe_stepL {e st : Expr} {lo hi : Option Expr} {te : TE} {tl th ts : TO} {p3 pos : Pos} (he : PE X e te) (hl : PO X lo tl) (hh : PO X hi th) (hs : PO X (some st) ts) : PE X (.Subscript e (.Slice lo hi (some st) p3) pos) (tStepL X.K te tl th ts) := by
  refine ⟨fun pins s σ H Q I h => ?_⟩
  refine Subscript_ (thn (he.run pins s σ H _ I h) fun v s1 ⟨x, H1, I1, r1, q1⟩ => ?_)
  refine wpAny_Slice (thn (hl.run pins s1 σ H1 _ I1 q1) fun vl s2 ⟨l, H2, I2, pl, q2⟩ => thn (hh.run pins s2 σ H2 _ I2 q2) fun vu s3 ⟨u, H3, I3, pu, q3⟩ => thn (hs.run pins s3 σ H3 _ I3 q3) fun vs s4 ⟨o, H4, I4, ps, q4⟩ => ?_)
  obtain ⟨a, xs, ex, hx, h0, q⟩ := q4
  subst ex
  cases r1
  have I5 : Inv X pins σ H4 { s4 with heap := s4.heap.push { cls := .type "slice", data := .fields #[vl, vu, vs] } } := I4.kept (t' := s4.toks) fun b ob q => Heap.get?_push_of_some _ q
  obtain ⟨its, r, ht, hz⟩ := I5.list hx
  have hlen := r.length
  show wpAny (model X.prog X.w) X.A (subscriptTail e (.Slice lo hi (some st) p3) (.ref a) (.ref s4.heap.objs.size)) (EP X pins σ Q) X.xe { s4 with heap := s4.heap.push { cls := .type "slice", data := .fields #[vl, vu, vs] } }
  refine tail_any (ops := [.ref a, .ref s4.heap.objs.size]) ht.isList.typeIs (PySem.slot_list_getitem.lookup) ?_ (by with_unfolding_all rfl)
  have hp : slicePick its.toArray l u o = ((places its.length l u o).filterMap (its[·]?)).toArray := by
    unfold slicePick places
    rw [List.size_toArray]
    simp only [List.getElem?_toArray]
  refine wpAny_getItem_list_slice ht.isList (Heap.IsSliceOf.new _ vl vu vs) pl pu ps h0 ?_ (by rw [List.size_toArray]; omega)
  rw [hp]
  refine ⟨.ref _, _, I5.laid (t' := s4.toks) (o := .lst (pickV xs l u o)) (fun b ob q => Heap.get?_push_of_some _ q) (Nat.le_refl _) ?_, rfl, q _ (I5.hok.fresh (Nat.le_refl _))⟩
  refine ⟨Nat.le_trans (pick_len xs l u o) hz, (places its.length l u o).filterMap (its[·]?), 0, ?_, Heap.get?_push_size _ rfl⟩
  have := vals_pick r (places xs.length l u o)
  rw [hlen] at this
  unfold pickV
  rw [hlen]
  exact this
end
/-! xs[a:b:c] = ys -/
section
variable {prog : Program} {w : World} {A : Around} {E : Value → Shared → Prop} {s : Shared}
set_option maxRecDepth 100000 in
/-- list.__setitem__ with a slice of another step and another list of as many items -/
theorem setItem_step {l b sl : Addr} {items new : Array Value} {n n2 : Nat} {vl vu vs : Value} {lo hi : Option Int} {c : Int} {Q : Unit → Shared → Prop}
    (e : s.heap.get? l = some { cls := .type "list", data := .seq items n }) (e2 : s.heap.get? b = some { cls := .type "list", data := .seq new n2 }) (hne : l ≠ b)
    (hs : s.heap.IsSliceOf sl vl vu vs) (pl : IsPart vl lo) (pu : IsPart vu hi) (ps : IsPart vs (some c)) (h0 : c ≠ 0) (h1 : c ≠ 1) (hn : new.size = (places items.size lo hi (some c)).length)
    (hsz : items.size ≤ sizeLine) (h : Q () { s with heap := s.heap.update l (Obj.mapSeq fun xs => ((places items.size lo hi (some c)).zip new.toList).foldl (fun xs (k, x) => xs.setIfInBounds k x) xs) }) :
    wpAny (model prog w) A (setItem (.ref l) (.ref sl) (.ref b)) Q E s := by
  have hl : s.heap.IsList l items := PySem.IsL.isList e
  have hb : s.heap.IsList b new := PySem.IsL.isList e2
  obtain ⟨os, hos, hcs, hds⟩ := id hs
  have hTs : s.TypeIs (.ref sl) "slice" := ⟨os, hos, hcs⟩
  have hstep : ¬ ((rawPart (some c) == rawInt 0) = true) := fun hh => by
    have : c = 0 := by simpa [rawPart, rawInt] using hh
    exact h0 this
  have hsame : Builtin.List.listSameRef (.ref l) (.ref b) = false := by
    unfold Builtin.List.listSameRef
    exact beq_eq_false_iff_ne.mpr hne
  have foldsz : ∀ (ps : List (Nat × Value)) (xs : Array Value), (ps.foldl (fun xs (p : Nat × Value) => xs.setIfInBounds p.1 p.2) xs).size = xs.size := fun ps => by
    induction ps with
    | nil => intro xs; rfl
    | cons p ps ih => intro xs; rw [List.foldl_cons, ih, Array.size_setIfInBounds]
  have hz' : ((fun xs : Array Value => ((places items.size lo hi (some c)).zip new.toList).foldl (fun xs (k, x) => xs.setIfInBounds k x) xs) items).size ≤ sizeLine + 1 := by
    show (List.foldl (fun xs (p : Nat × Value) => xs.setIfInBounds p.1 p.2) items _).size ≤ _
    rw [foldsz]
    omega
  unfold setItem
  try with_reducible refine wpAny_holding ?_
  first | refine wpAny_bind (wpAny_pure ?_) | skip
  refine wpAny_bind (wpAny_sequenceKey hl.typeIs (by decide) ?_)
  refine wpAny_bind (wpAny_callSpecial?_slot (name := Str.ofString "__setitem__") hl.typeIs slot_list_setitem
    (wpAny_call_entry slot_list_setitem hl.typeIs entry_list_setitem ?_ (args_list_setitem _ _ _)))
  show wpAny _ _ (Builtin.List.listSubscript? (.ref sl) >>= _) _ _ s
  refine wpAny_bind ?_
  unfold Builtin.List.listSubscript?
  refine wpAny_bind (wpAny_specialOf hTs slice_no_index ?_)
  simp only [Option.isNone_none, if_true]
  refine wpAny_pure ?_
  show wpAny _ _ (typeOf (.ref sl) >>= _) _ _ s
  refine wpAny_bind (wpAny_typeOf hTs ?_)
  first
    | rw [if_neg (by decide)]
    | refine PySem.W.KFB.if_not (by decide) ?_
  rw [listSliceParts_eq]
  refine wpAny_bind (wpAny_bind (wpAny_field hos hds (x := vs) rfl (wpAny_bind (wpAny_listPart ps ?_))))
  rw [if_neg hstep]
  refine wpAny_bind (wpAny_field hos hds (x := vl) rfl (wpAny_bind (wpAny_listPart pl ?_)))
  refine wpAny_bind (wpAny_field hos hds (x := vu) rfl (wpAny_bind (wpAny_listPart pu (wpAny_pure ?_))))
  first
    | simp only [hsame, Bool.false_eq_true, if_false]
    | refine PySem.W.KFB.if_not hsame ?_
    | (dsimp only
       rw [if_neg (by rw [hsame]; exact Bool.false_ne_true)])
  refine wpAny_bind (m := Builtin.List.listAllItems (.ref b) "must assign iterable to extended slice") ?_
  unfold Builtin.List.listAllItems
  refine wpAny_bind (wpAny_typeOf hb.typeIs ?_)
  first
    | refine PySem.W.KFB.if_so (by decide) ?_
    | rw [if_pos (by decide)]
    | simp only [beq_self_eq_true, Bool.true_or, if_true]
  unfold Builtin.List.listItems
  refine wpAny_bind (wpAny_seqItems e2 rfl (wpAny_pure ?_))
  refine wpAny_bind (wpAny_bind (wpAny_seqItems e rfl (wpAny_pure ?_)))
  refine wpAny_bind (wpAny_of_eq (sliceIndices_raw lo hi (some c) items.size (by simpa using h0)) ?_)
  have est : (sliceBounds lo hi (some c) items.size).2.2 = c := rfl
  have c1 : ¬ ((c == 1) = true) := by simpa using h1
  have c2 : ¬ ((new.size != (places items.size lo hi (some c)).length) = true) := by simp [hn]
  show wpAny _ _ (if (c == 1) = true then _ else _) _ _ s
  rw [if_neg c1]
  show wpAny _ _ (if (new.size != (places items.size lo hi (some c)).length) = true then _ else _) _ _ s
  rw [if_neg c2]
  refine wpAny_bind (wpAny_rule ?_)
  show wpAny _ _ (updateSeq l (fun xs => ((places items.size lo hi (some c)).zip new.toList).foldl (fun xs (k, x) => xs.setIfInBounds k x) xs) >>= _) _ _ s
  refine wpAny_bind (wpAny_updateSeq (hz := hsz) (_hz' := hz') e rfl ?_)
  refine wpAny_bind (wpAny_letGo ?_)
  first
    | exact wpAny_bind (wpAny_pure (wpAny_pure ⟨.none, rfl, wpAny_pure h⟩))
    | exact wpAny_pure ⟨.none, rfl, wpAny_pure h⟩
end

def StepS (o v : V) (l u : Option Int) (st : Option Int) (H : Hp) (Q : Hp → Prop) : Prop := ∃ (p b : Addr) (xs ys : List V) (c : Int), o = .ref p ∧ v = .ref b ∧ H p = some (.lst xs) ∧ H b = some (.lst ys) ∧ p ≠ b ∧ st = some c ∧ c ≠ 0 ∧ c ≠ 1 ∧
  ys.length = (places xs.length l u st).length ∧ Q (upd H p (.lst (putV xs (places xs.length l u st) ys)))
def gStep (to : TE) (tl th ts : TO) : TG := fun v σ H Q => to σ H fun o H1 => tl σ H1 fun l H2 => th σ H2 fun u H3 => ts σ H3 fun st H4 => StepS o v l u st H4 fun H5 => Q σ H5
theorem put_arr : ∀ (ks : List Nat) (ws its : List Value), ((ks.zip ws).foldl (fun (xs : Array Value) (p : Nat × Value) => xs.setIfInBounds p.1 p.2) its.toArray) = ((ks.zip ws).foldl (fun (xs : List Value) (p : Nat × Value) => xs.set p.1 p.2) its).toArray
  | [], _, _ => rfl
  | _ :: _, [], _ => rfl
  | k :: ks, w :: ws, its => by
    rw [List.zip_cons_cons, List.foldl_cons, List.foldl_cons, List.setIfInBounds_toArray]
    exact put_arr ks ws _
section
variable {X : Cx} {pos : Pos}
theorem set_step {pins : List (Addr × Obj)} {s : Shared} {σ : L2.St} {H : Hp} {o v : V} {ov u : Value} {a : Addr} {vl vu vs : Value} {lo hi st : Option Int} {Q : Hp → Prop} (I : Inv X pins σ H s) (ro : RelV o ov) (rv : RelV v u)
    (hs : s.heap.IsSliceOf a vl vu vs) (pl : IsPart vl lo) (pu : IsPart vu hi) (ps : IsPart vs st) (h : StepS o v lo hi st H Q) :
    wpAny (model X.prog X.w) X.A (setItem ov (.ref a) u) (fun _ s' => ∃ H', Inv X pins σ H' s' ∧ Q H') X.xe s := by
  obtain ⟨p, b, xs, ys, c, rfl, rfl, hH, hB, hne, rfl, h0, h1, hn, q⟩ := h
  cases ro
  cases rv
  obtain ⟨z, its, n, r, hl, e⟩ := I.lstM hH
  obtain ⟨z2, its2, n2, r2, hl2, e2⟩ := I.lstM hB
  refine setItem_step e e2 hne hs pl pu ps h0 h1 ?_ (by rw [List.size_toArray]; omega) ⟨_, ?_, q⟩
  · rw [List.size_toArray, List.size_toArray, ← hl2, ← hl]; exact hn
  · refine I.lset (its' := ((places xs.length lo hi (some c)).zip its2).foldl (fun xs p => xs.set p.1 p.2) its) (t' := s.toks) hH e ?_ (vals_put r r2) (by rw [putV_length]; exact z)
    rw [List.size_toArray, ← hl]
    exact put_arr _ _ _
/-- xs[a:b:c] = .. -/
theorem pg_step {o st : Expr} {lo hi : Option Expr} {to : TE} {tl th ts : TO} {p2 : Pos} (ho : PE X o to) (hl : PO X lo tl) (hh : PO X hi th) (hs : PO X (some st) ts)
    (ha : ∀ v, assign (.Subscript o (.Slice lo hi (some st) p2) pos) X.env v = (do
      let ov ← holding [v] (eval o X.env)
      let iv ← holding [v, ov] (eval (.Slice lo hi (some st) p2) X.env)
      standAt pos
      holding [v, ov, iv] (setItem ov iv v)
      release [v, ov, iv] []) := by intro _; rfl) : PG X (.Subscript o (.Slice lo hi (some st) p2) pos) (gStep to tl th ts) := by
  refine ⟨fun pins s σ H v u Q I r h => ?_⟩
  rw [ha]
  refine wpAny_bind (wpAny_holding (thn (ho.run pins s σ H _ I h) fun ov s1 ⟨x, H1, I1, r1, q1⟩ => ?_))
  refine wpAny_bind (wpAny_holding (wpAny_Slice (thn (hl.run pins s1 σ H1 _ I1 q1) fun vl s2 ⟨l, H2, I2, pl, q2⟩ => thn (hh.run pins s2 σ H2 _ I2 q2) fun vu s3 ⟨w, H3, I3, pu, q3⟩ => thn (hs.run pins s3 σ H3 _ I3 q3) fun vs s4 ⟨d, H4, I4, ps, q4⟩ => ?_)))
  have I5 : Inv X pins σ H4 { s4 with heap := s4.heap.push { cls := .type "slice", data := .fields #[vl, vu, vs] } } := I4.kept (t' := s4.toks) fun b ob q => Heap.get?_push_of_some _ q
  refine wpAny_bind (wpAny_standAt (wpAny_bind (wpAny_holding (thn (set_step I5 r1 r (Heap.IsSliceOf.new _ vl vu vs) pl pu ps q4) fun _ s5 ⟨H6, I6, q6⟩ => ?_))))
  exact wpAny_release ⟨σ, H6, I6, q6⟩
end
/-! a call of a name that holds some def -/
def HeldK (P : Program) (w : World) (K : PySem.W.Frag) (mg : Str → Option Value) (base : Heap) (k : Nat) (f : Addr) (sp : Sp) : Prop := ∃ (j : Nat) (fd : FuncData) (ps : List Str), j ≤ k ∧ FnOk P w K mg base CX0 j f fd ps sp ∧ PySem.W.keepIn K (.ref f) = true ∧ Binds K fd ps []
def tCallH (P : Program) (w : World) (K : PySem.W.Frag) (mg : Str → Option Value) (base : Heap) (k i : Nat) (t : TA) : TE := fun σ H Q => ∃ f sp, σ[i]? = some (some (.ref f)) ∧ HeldK P w K mg base k f sp ∧ t σ H fun vs H1 => sp vs H1 Q E0
section
variable {X : Cx} {k i : Nat} {x : Str} {p pos : Pos} {e : Expr} {es : List Expr} {t : TA}
theorem pe_callH (hr : Room k X.A) (hN : X.N[i]? = some x) (hv : Vis X.env.scope x) (ha : PA X (e :: es) t)
    (hdb : (x == ("__debug__" : Str)) = false := by decide) (hcd : (x == ("__classdict__" : Str)) = false := by decide)
    (he : starEach (e :: es) X.env = (false, eval e X.env) :: starEach es X.env := by rfl) (hpl : (backTo pos (starEach es X.env)).any (·.1) = false := by rfl) : PE X (.Call (.Name x p) (e :: es) [] pos) (tCallH X.prog X.w X.K X.mg X.base k i t) := by
  refine ⟨fun pins s σ H Q I h => ?_⟩
  obtain ⟨f, sp, hs, ⟨j, fd, ps, hj, F, hk, hb⟩, ht⟩ := h
  refine (pe_callL (i := i) (f := f) (sp := sp) (dvs := []) (E := E0) (F.mono hj) hr hN hv hk hb .nil pass0 ha hdb hcd he hpl).run pins s σ H Q I ⟨hs, ?_⟩
  have e0 : (fun (vs : List V) (H1 : Hp) => sp (vs ++ []) H1 Q E0) = fun vs H1 => sp vs H1 Q E0 := by
    funext vs H1
    rw [List.append_nil]
  show t σ H (fun vs H1 => sp (vs ++ []) H1 Q E0)
  rw [e0]
  exact ht
end
/-! readings -/
section
variable {H H1 : Hp} {Q : VK} {K : PySem.W.Frag} {σ : L2.St} {p a b : Addr} {xs ys : List V} {v : V} {te : TE} {tl th ts : TO}
theorem x_stepL (k : te σ H fun x H1 => tl σ H1 fun l H2 => th σ H2 fun u H3 => ts σ H3 fun o H4 => StepK K x l u o H4 Q) : tStepL K te tl th ts σ H Q := k
theorem x_stepK {l u o : Option Int} (h : H a = some (.lst xs)) (h0 : o ≠ some 0) (k : ∀ p H1, Ex H H1 → H p = none → H1 p = some (.lst (pickV xs l u o)) → Q (.ref p) H1) : StepK K (.ref a) l u o H Q :=
  ⟨a, xs, rfl, SqL.of h, h0, fun p hp => k p _ (Ex.new hp) hp upd_same⟩
theorem x_gStep {to : TE} {q : L2.St → Hp → Prop} (k : to σ H fun o H1 => tl σ H1 fun l H2 => th σ H2 fun u H3 => ts σ H3 fun st H4 => StepS o v l u st H4 fun H5 => q σ H5) : gStep to tl th ts v σ H q := k
theorem x_stepS {l u : Option Int} {c : Int} {q : Hp → Prop} (h : H p = some (.lst xs)) (h' : H b = some (.lst ys)) (n : p ≠ b) (c0 : c ≠ 0) (c1 : c ≠ 1) (hl : ys.length = (places xs.length l u (some c)).length) (k : q (upd H p (.lst (putV xs (places xs.length l u (some c)) ys)))) : StepS (.ref p) (.ref b) l u (some c) H q :=
  ⟨p, b, xs, ys, c, rfl, rfl, h, h', n, rfl, c0, c1, hl, k⟩
theorem x_callH {P : Program} {w : World} {mg : Str → Option Value} {base : Heap} {k i : Nat} {t : TA} {f : Addr} (sp : Sp) (hs : σ[i]? = some (some (.ref f))) (hh : HeldK P w K mg base k f sp) (ht : t σ H fun vs H1 => sp vs H1 Q E0) : tCallH P w K mg base k i t σ H Q := ⟨f, sp, hs, hh, ht⟩
theorem x_ixDr {w : World} {d f : Addr} {z : Str} {es : Array DictEntry} {n : Nat} (D : KDict K w d es n) (h : PySem.W.nsIn K d z = some (some (.ref f))) (k : Q (.ref f) H) : rIxD K w (.ref d) (.str z) H Q :=
  ⟨d, z, .ref f, rfl, rfl, kdct_of (v := .ref f) D h rfl, k⟩
end
end Er
namespace Er
open PySem PySem.Spec PyProof.Rows L2 Sx
section
variable {X : Cx} {sB : Shared} {HB : Hp} {scope : Scope} {cenv : Env} {fp : List Addr}
theorem pe_stepLB {e st : Expr} {lo hi : Option Expr} {te : TE} {tl th ts : TO} {p3 pos : Pos} (he : PE (X.blk sB HB scope cenv fp) e te) (hl : PO (X.blk sB HB scope cenv fp) lo tl) (hh : PO (X.blk sB HB scope cenv fp) hi th) (hs : PO (X.blk sB HB scope cenv fp) (some st) ts) : PE (X.blk sB HB scope cenv fp) (.Subscript e (.Slice lo hi (some st) p3) pos) (tStepL X.K te tl th ts) := pe_stepL (X := X.blk sB HB scope cenv fp) he hl hh hs
end
end Er

set_option Elab.async false
set_option linter.all false
set_option maxRecDepth 100000
set_option maxHeartbeats 2000000
/-! comprehensions whose invariant tells of lists -/
namespace Er
open PySem PySem.Spec PyProof.Rows L2 Sx
section
variable {H H' H1 H2 : Hp} {p a b c l : Addr} {o u : HO} {K : PySem.W.Frag} {σ : L2.St} {Q : VK} {v w : V} {D : Ends} {t : TT} {ta tb te : TE}
theorem lc_anyC {J : It} {n : Nat} {g : TG} {vs : List Nat} (I : Nat → List V → Hp → Prop) (h0 : ∀ D, H1 D = none → I 0 [] (upd H1 D (.lst [])))
    (mono : ∀ i acc y H D, H D = some (.lst acc) → I (i + 1) (acc ++ [y]) H → I (i + 1) (acc ++ [y]) (upd H D (.lst (acc ++ [y])))) (nb : ∀ i acc H, I i acc H → NB (.lst acc) ∧ acc.length < sizeLine)
    (go : ∀ i H', i < n → Ex H1 H' → J.go i H') (stop : ∀ H', Ex H1 H' → J.stop n H')
    (turn : ∀ i acc x H' H'', i < n → Ex H1 H' → I i acc H' → J.yld i H' x H'' → ∀ kk : Option V → Hp → Prop, (∀ y H4, Ex H' H4 → I (i + 1) (acc ++ [y]) H4 → kk (some y) H4) →
      g x (wipe σ vs) H'' fun σ2 H2 => wipe σ2 vs = wipe σ vs ∧ t σ2 H2 fun b H3 => if b = true then te σ2 H3 (fun y H4 => kk (some y) H4) else kk none H3)
    (k : ∀ p ys H2, Ex H1 H2 → H1 p = none → H2 p = some (.lst ys) → I n ys H2 → Q (.ref p) H2) : LcGo J g t te vs σ H1 Q := by
  intro D hD
  refine ⟨fun i m H => m = n - i ∧ i ≤ n ∧ Ex H1 H ∧ ∃ acc, H D = some (.lst acc) ∧ I i acc H, ⟨n, rfl, Nat.zero_le _, Ex.new hD, [], upd_same, h0 D hD⟩, ?_⟩
  rintro i m H ⟨rfl, hi, e, acc, hd, hI⟩
  by_cases hlt : i < n
  · refine .inr ⟨go i H hlt e, fun H' => i + 1 ≤ n ∧ Ex H1 H' ∧ ∃ acc, H' D = some (.lst acc) ∧ I (i + 1) acc H', fun H' q => ⟨n - (i + 1), by omega, rfl, q⟩, fun x H' y => ?_⟩
    have nbA := nb _ _ _ hI
    have q := turn i acc x H H' hlt e hI y (fun o H4 => match o with
      | some y => ∃ acc, H4 D = some (.lst acc) ∧ acc.length < sizeLine ∧ (i + 1 ≤ n ∧ Ex H1 (upd H4 D (.lst (acc ++ [y]))) ∧ ∃ acc', upd H4 D (.lst (acc ++ [y])) D = some (.lst acc') ∧ I (i + 1) acc' (upd H4 D (.lst (acc ++ [y]))))
      | none => i + 1 ≤ n ∧ Ex H1 H4 ∧ ∃ acc, H4 D = some (.lst acc) ∧ I (i + 1) acc H4) (fun y H4 e4 q => ?_)
    · exact q
    · have hd4 := e4.kp _ _ hd nbA.1
      exact ⟨acc, hd4, nbA.2, hlt, Ex.mut (e.trans e4) hD, acc ++ [y], upd_same, mono _ _ _ _ _ hd4 q⟩
  · have ei : i = n := by omega
    subst ei
    exact .inl ⟨stop H e, k D acc H e hD hd hI⟩
theorem lc_lstC {xs : List V} {j : Nat} {vs : List Nat} (hx : H1 a = some (.lst xs)) (nbx : NB (.lst xs)) (I : Nat → List V → Hp → Prop) (h0 : ∀ D, H1 D = none → I 0 [] (upd H1 D (.lst [])))
    (mono : ∀ i acc y H D, H D = some (.lst acc) → I (i + 1) (acc ++ [y]) H → I (i + 1) (acc ++ [y]) (upd H D (.lst (acc ++ [y])))) (nb : ∀ i acc H, I i acc H → NB (.lst acc) ∧ acc.length < sizeLine)
    (hw : ∀ x, wipe ((wipe σ vs).set j (some x)) vs = wipe σ vs)
    (turn : ∀ (i : Nat) x acc H', xs[i]? = some x → Ex H1 H' → I i acc H' → ∀ kk : Option V → Hp → Prop, (∀ y H4, Ex H' H4 → I (i + 1) (acc ++ [y]) H4 → kk (some y) H4) →
      t ((wipe σ vs).set j (some x)) H' fun b H3 => if b = true then te ((wipe σ vs).set j (some x)) H3 (fun y H4 => kk (some y) H4) else kk none H3)
    (k : ∀ p ys H2, Ex H1 H2 → H1 p = none → H2 p = some (.lst ys) → I xs.length ys H2 → Q (.ref p) H2) : LK K (.ref a) H1 fun J H2 => LcGo J (gName j) t te vs σ H2 Q := by
  have hq : ∀ H', Ex H1 H' → SqL K H' a xs := fun H' e => SqL.of (e.kp _ _ hx nbx)
  refine ⟨a, rfl, ⟨xs, SqL.of hx⟩, lc_anyC (n := xs.length) I h0 mono nb (fun i H' hi e => ⟨xs, xs[i], hq H' e, by simp [hi]⟩) (fun H' e => ⟨xs, hq H' e, Nat.le_refl _⟩) (fun i acc x H' H'' hi e q y kk k1 => ?_) k⟩
  obtain ⟨rfl, y⟩ := y
  exact ⟨hw _, turn i x acc _ (y xs (hq _ e)) e q kk k1⟩
theorem lc_rngC {m : Int} {j : Nat} {vs : List Nat} (hm : m < 2 ^ 62) (hm0 : -(2 ^ 62) ≤ m) (I : Nat → List V → Hp → Prop) (h0 : ∀ D, H1 D = none → I 0 [] (upd H1 D (.lst [])))
    (mono : ∀ i acc y H D, H D = some (.lst acc) → I (i + 1) (acc ++ [y]) H → I (i + 1) (acc ++ [y]) (upd H D (.lst (acc ++ [y])))) (nb : ∀ i acc H, I i acc H → NB (.lst acc) ∧ acc.length < sizeLine)
    (hw : ∀ x, wipe ((wipe σ vs).set j (some x)) vs = wipe σ vs)
    (turn : ∀ (i : Nat) acc H', (i : Int) < m → Ex H1 H' → I i acc H' → ∀ kk : Option V → Hp → Prop, (∀ y H4, Ex H' H4 → I (i + 1) (acc ++ [y]) H4 → kk (some y) H4) →
      t ((wipe σ vs).set j (some (.int (i : Int)))) H' fun b H3 => if b = true then te ((wipe σ vs).set j (some (.int (i : Int)))) H3 (fun y H4 => kk (some y) H4) else kk none H3)
    (k : ∀ p ys H2, Ex H1 H2 → H1 p = none → H2 p = some (.lst ys) → I m.toNat ys H2 → Q (.ref p) H2) : R1K [.int m] H1 fun J H2 => LcGo J (gName j) t te vs σ H2 Q := by
  refine ⟨m, rfl, hm0, hm, lc_anyC I h0 mono nb (fun i H' hi _ => hi) (fun H' _ => Nat.le_refl _) (fun i acc x H' H'' hi e q y kk k1 => ?_) k⟩
  obtain ⟨rfl, rfl⟩ := y
  have e0 : (0 : Int) + (i : Int) = (i : Int) := Int.zero_add _
  rw [e0]
  exact ⟨hw _, turn i acc _ (by omega) e q kk k1⟩
/-- range(lo, hi, c), known -/
def R3K (vs : List V) (H1 : Hp) (R : It → Hp → Prop) : Prop := ∃ (i j c : Int) (n : Nat), vs = [.int i, .int j, .int c] ∧ RgC i j c n ∧ R (Itc i c n) H1
theorem x_iR3 {a : TA} {R : It → Hp → Prop} (k : a σ H fun xs H1 => R3K xs H1 R) : iRng3 a σ H R := k
theorem lc_rng3C {lo hi c : Int} {n j : Nat} {vs : List Nat} (hr : RgC lo hi c n) (I : Nat → List V → Hp → Prop) (h0 : ∀ D, H1 D = none → I 0 [] (upd H1 D (.lst [])))
    (mono : ∀ i acc y H D, H D = some (.lst acc) → I (i + 1) (acc ++ [y]) H → I (i + 1) (acc ++ [y]) (upd H D (.lst (acc ++ [y])))) (nb : ∀ i acc H, I i acc H → NB (.lst acc) ∧ acc.length < sizeLine)
    (hw : ∀ x, wipe ((wipe σ vs).set j (some x)) vs = wipe σ vs)
    (turn : ∀ (i : Nat) acc H', i < n → Ex H1 H' → I i acc H' → ∀ kk : Option V → Hp → Prop, (∀ y H4, Ex H' H4 → I (i + 1) (acc ++ [y]) H4 → kk (some y) H4) →
      t ((wipe σ vs).set j (some (.int (lo + (i : Nat) * c)))) H' fun b H3 => if b = true then te ((wipe σ vs).set j (some (.int (lo + (i : Nat) * c)))) H3 (fun y H4 => kk (some y) H4) else kk none H3)
    (k : ∀ p ys H2, Ex H1 H2 → H1 p = none → H2 p = some (.lst ys) → I n ys H2 → Q (.ref p) H2) : R3K [.int lo, .int hi, .int c] H1 fun J H2 => LcGo J (gName j) t te vs σ H2 Q := by
  refine ⟨lo, hi, c, n, rfl, hr, lc_anyC I h0 mono nb (fun i H' hi _ => hi) (fun H' _ => Nat.le_refl _) (fun i acc x H' H'' hi e q y kk k1 => ?_) k⟩
  obtain ⟨rfl, rfl⟩ := y
  exact ⟨hw _, turn i acc _ hi e q kk k1⟩
end
end Er
namespace Er
open PySem PySem.Spec PyProof.Rows L2 Sx
section
variable {H H' H1 H2 : Hp} {p a b c l : Addr} {o u : HO} {K : PySem.W.Frag} {σ : L2.St} {Q : VK} {v w : V} {D : Ends} {t : TT} {ta tb te : TE}
def Lc2Go (J : It) (g : TG) (tt : TT) (wi1 : TI) (g1 : TG) (tt1 : TT) (te : TE) (vs vs1 : List Nat) (σ : L2.St) (H1 : Hp) (Q : VK) : Prop := ∀ D, H1 D = none → ∃ W : Nat → Nat → Hp → Prop, (∃ m, W 0 m (upd H1 D (.lst []))) ∧ ∀ i m H, W i m H →
  (J.stop i H ∧ Q (.ref D) H) ∨ (J.go i H ∧ ∃ Nx : Hp → Prop, (∀ H', Nx H' → ∃ m', m' < m ∧ W (i + 1) m' H') ∧ ∀ x H', J.yld i H x H' → g x (wipe σ vs) H' fun σ2 H2 => wipe σ2 vs = wipe σ vs ∧ tt σ2 H2 fun b H3 =>
    if b = true then wi1 σ2 H3 fun J1 H4 => ∃ W1 : Nat → Nat → Hp → Prop, (∃ m, W1 0 m H4) ∧ ∀ j k H, W1 j k H →
      (J1.stop j H ∧ Nx H) ∨ (J1.go j H ∧ ∃ Nx1 : Hp → Prop, (∀ H', Nx1 H' → ∃ k', k' < k ∧ W1 (j + 1) k' H') ∧ ∀ x H', J1.yld j H x H' → g1 x (wipe σ2 vs1) H' fun σ3 H5 => wipe σ3 vs1 = wipe σ2 vs1 ∧ tt1 σ3 H5 fun b H6 =>
        if b = true then te σ3 H6 fun y H7 => ∃ acc, H7 D = some (.lst acc) ∧ acc.length < sizeLine ∧ Nx1 (upd H7 D (.lst (acc ++ [y]))) else Nx1 H6)
    else Nx H3)
theorem x_lc2 {wi wi1 : TI} {g g1 : TG} {tt tt1 : TT} {vs vs1 : List Nat} (k : wi σ H fun J H1 => Lc2Go J g tt wi1 g1 tt1 te vs vs1 σ H1 Q) : tLc2 wi g tt wi1 g1 tt1 te vs vs1 σ H Q := k
/-- a list so many times -/
theorem x_repN {xs : List V} {n : Nat} (h : H a = some (.lst xs)) (hn : n < 2 ^ 63) (hz : xs.length * n ≤ sizeLine) (k : ∀ p H1, Ex H H1 → H p = none → H1 p = some (.lst (List.replicate n xs).flatten) → Q (.ref p) H1) : rRep (.ref a) (.int (n : Int)) H Q :=
  ⟨a, n, xs, rfl, rfl, h, by omega, by omega, by rw [Int.toNat_natCast]; exact hz, fun p hp => by rw [Int.toNat_natCast]; exact k p _ (Ex.new hp) hp upd_same⟩
theorem cut_mid {xs : List V} {i j : Nat} (hi : i ≤ xs.length) : cutV xs (some (i : Int)) (some (j : Int)) = (xs.drop i).take (j - i) := by
  unfold cutV
  rw [HT.sIx_nat, HT.sIx_nat, Nat.min_eq_left hi]
  by_cases hj : j ≤ xs.length
  · rw [Nat.min_eq_left hj]
  · rw [Nat.min_eq_right (by omega), List.take_of_length_le (by rw [List.length_drop]; omega), List.take_of_length_le (by rw [List.length_drop]; omega)]
/-- [x for l in ls for x in l] of lists of ints -/
theorem lc2_flat {ps : List V} {ls : List (List Int)} {j j2 : Nat} {vs vs1 : List Nat} (hb : H b = some (.lst ps)) (nbp : NB (.lst ps)) (hl : ps.length = ls.length) (hin : ∀ {i : Nat} {v : V}, ps[i]? = some v → ∃ p l, v = .ref p ∧ ls[i]? = some l ∧ H p = some (.lst (l.map V.int)))
    (sz : ls.flatten.length < sizeLine) (hw : ∀ x, wipe ((wipe σ vs).set j (some x)) vs = wipe σ vs) (hj : ∀ x, ((wipe σ vs).set j (some x))[j]? = some (some x))
    (hw1 : ∀ x y, wipe ((wipe ((wipe σ vs).set j (some x)) vs1).set j2 (some y)) vs1 = wipe ((wipe σ vs).set j (some x)) vs1) (hj2 : ∀ x y, ((wipe ((wipe σ vs).set j (some x)) vs1).set j2 (some y))[j2]? = some (some y))
    (k : ∀ p H2, Ex H H2 → H p = none → H2 p = some (.lst (ls.flatten.map V.int)) → Q (.ref p) H2) :
    LK K (.ref b) H fun J H1 => Lc2Go J (gName j) tYes (iList K (tVar j)) (gName j2) tYes (tVar j2) vs vs1 σ H1 Q := by
  have hq : ∀ H', Ex H H' → SqL K H' b ps := fun H' e => SqL.of (e.kp _ _ hb nbp)
  refine ⟨b, rfl, ⟨ps, SqL.of hb⟩, ?_⟩
  intro D hD
  refine ⟨fun i m H' => m = ps.length - i ∧ i ≤ ps.length ∧ Ex H H' ∧ H' D = some (.lst (((ls.take i).flatten).map V.int)), ⟨ps.length, rfl, Nat.zero_le _, Ex.new hD, by rw [upd_same]; rfl⟩, ?_⟩
  rintro i m H' ⟨rfl, hi, e, hd⟩
  by_cases hlt : i < ps.length
  · refine .inr ⟨⟨ps, ps[i], hq H' e, by simp [hlt]⟩, fun H' => i + 1 ≤ ps.length ∧ Ex H H' ∧ H' D = some (.lst (((ls.take (i + 1)).flatten).map V.int)), fun H' q => ⟨ps.length - (i + 1), by omega, rfl, q⟩, fun x H'' y => ?_⟩
    obtain ⟨rfl, y⟩ := y
    obtain ⟨p, l, rfl, hl', hp⟩ := hin (y ps (hq _ e))
    have hp' : ∀ H', Ex H H' → H' p = some (.lst (l.map V.int)) := fun H' e => e.kp _ _ hp NB.ints
    have sp : (ls.take (i + 1)).flatten = (ls.take i).flatten ++ l := by rw [List.take_add_one, hl', List.flatten_append]; simp
    have lsz : ((ls.take i).flatten ++ l).length ≤ ls.flatten.length := by
      rw [← sp]
      conv => rhs; rw [← List.take_append_drop (i + 1) ls]
      rw [List.flatten_append, List.length_append]
      omega
    refine ⟨hw _, x_yes ?_⟩
    rw [if_pos rfl]
    refine ⟨.ref p, hj _, p, rfl, ⟨_, SqL.of (hp' _ e)⟩, ?_⟩
    refine ⟨fun n k H' => k = l.length - n ∧ n ≤ l.length ∧ Ex H H' ∧ H' D = some (.lst (((ls.take i).flatten ++ l.take n).map V.int)), ⟨l.length, rfl, Nat.zero_le _, e, by rw [hd]; simp⟩, ?_⟩
    rintro n k2 H3 ⟨rfl, hn, e3, hd3⟩
    by_cases hlt2 : n < l.length
    · refine .inr ⟨⟨l.map V.int, .int l[n], SqL.of (hp' _ e3), by simp [hlt2]⟩, fun H' => n + 1 ≤ l.length ∧ Ex H H' ∧ H' D = some (.lst (((ls.take i).flatten ++ l.take (n + 1)).map V.int)), fun H' q => ⟨l.length - (n + 1), by omega, rfl, q⟩, fun x H4 y => ?_⟩
      obtain ⟨rfl, y⟩ := y
      have hx := y _ (SqL.of (hp' _ e3))
      refine ⟨hw1 _ _, x_yes ?_⟩
      rw [if_pos rfl]
      refine ⟨x, hj2 _ _, _, hd3, ?_, hlt2, Ex.mut e3 hD, ?_⟩
      · rw [List.length_map, List.length_append, List.length_take]
        rw [List.length_append] at lsz
        omega
      · rw [upd_same]
        rw [List.getElem?_map, List.getElem?_eq_getElem hlt2] at hx
        rw [List.take_add_one, List.getElem?_eq_getElem hlt2]
        have ex : V.int l[n] = x := Option.some.inj hx
        subst ex
        rw [List.map_append, List.map_append, List.map_append, List.append_assoc]
        rfl
    · have en : n = l.length := by omega
      subst en
      refine .inl ⟨⟨_, SqL.of (hp' _ e3), by simp⟩, hlt, e3, ?_⟩
      rw [hd3, sp, List.take_of_length_le (Nat.le_refl _)]
  · have ei : i = ps.length := by omega
    subst ei
    refine .inl ⟨⟨ps, hq _ e, Nat.le_refl _⟩, k D H' e hD ?_⟩
    rw [hd, hl, List.take_of_length_le (Nat.le_refl _)]
end
end Er
namespace Er
open PySem PySem.Spec PyProof.Rows L2 Sx
section
variable {X : Cx} {sB : Shared} {HB : Hp} {scope : Scope} {cenv : Env} {fp : List Addr}
theorem pi_listB {tg it : Expr} {te : TE} (h : PE (X.blk sB HB scope cenv fp) it te) : PI (X.blk sB HB scope cenv fp) tg it (iList X.K te) := pi_list (X := X.blk sB HB scope cenv fp) h
end
end Er
namespace Ow
open PySem PySem.Spec PyProof.Rows L2 Sx
section
variable {X : Cx} {sB : Shared} {HB : Hp} {scope : Scope} {cenv : Env} {fp : List Addr}
theorem c_listOfB : CallR (X.blk sB HB scope cenv fp) (.type "list") (rListOf X.K) := c_listOf (X := X.blk sB HB scope cenv fp)
end
end Ow

set_option Elab.async false
set_option linter.all false
set_option maxRecDepth 100000
set_option maxHeartbeats 4000000
/-! columns of a line: tables, and what slices pick -/
namespace Cl
open PySem PySem.Spec PyProof.Rows L2 Sx Er
def col (m : Nat) (g : Int → Int → Int) (f : Int) : List Int := (List.range m).map fun r : Nat => g r f
def tab (n m : Nat) (g : Int → Int → Int) : List (List Int) := (List.range n).map fun f : Nat => col m g f
def ord (n m : Nat) (g : Int → Int → Int) : List Int := (List.range (n * m)).map fun i : Nat => g ((i : Int) / n) ((i : Int) % n)
theorem col_len (m : Nat) (g : Int → Int → Int) (f : Int) : (col m g f).length = m := by simp [col]
theorem tab_len (n m : Nat) (g : Int → Int → Int) : (tab n m g).length = n := by simp [tab]
theorem ord_len (n m : Nat) (g : Int → Int → Int) : (ord n m g).length = n * m := by simp [ord]
theorem col_congr {m : Nat} {g g' : Int → Int → Int} {f f' : Int} (h : ∀ r : Int, 0 ≤ r → r < m → g r f = g' r f') : col m g f = col m g' f' :=
  List.map_congr_left fun r hr => h r (by omega) (by have := List.mem_range.mp hr; omega)
theorem tab_congr {n m : Nat} {g g' : Int → Int → Int} (h : ∀ r f : Int, 0 ≤ r → r < m → 0 ≤ f → f < n → g r f = g' r f) : tab n m g = tab n m g' :=
  List.map_congr_left fun f hf => col_congr fun r r0 r1 => h r f r0 r1 (by omega) (by have := List.mem_range.mp hf; omega)
theorem tab_get {n m : Nat} {g : Int → Int → Int} {i : Nat} (h : i < n) : (tab n m g)[i]? = some (col m g i) := by
  unfold tab
  rw [List.getElem?_map, List.getElem?_range h]
  rfl
theorem col_get {m : Nat} {g : Int → Int → Int} {f : Int} {i : Nat} (h : i < m) : (col m g f)[i]? = some (g i f) := by
  unfold col
  rw [List.getElem?_map, List.getElem?_range h]
  rfl
/-- a list is a column, by its items -/
theorem is_col {m : Nat} {g : Int → Int → Int} {f : Int} {l : List Int} (hl : l.length = m) (h : ∀ i : Nat, i < m → l[i]? = some (g i f)) : l = col m g f := by
  refine List.ext_getElem? fun i => ?_
  by_cases c : i < m
  · rw [h i c, col_get c]
  · rw [List.getElem?_eq_none (by omega), List.getElem?_eq_none (by rw [col_len]; omega)]
theorem is_tab {n m : Nat} {g : Int → Int → Int} {l : List (List Int)} (hl : l.length = n) (h : ∀ i : Nat, i < n → l[i]? = some (col m g i)) : l = tab n m g := by
  refine List.ext_getElem? fun i => ?_
  by_cases c : i < n
  · rw [h i c, tab_get c]
  · rw [List.getElem?_eq_none (by omega), List.getElem?_eq_none (by rw [tab_len]; omega)]
theorem tab_set {n m i : Nat} {g g' : Int → Int → Int} (h : i < n) : (tab n m g).set i (col m g' i) = tab n m fun r f => if f = i then g' r f else g r f := by
  refine is_tab (by simp [tab]) fun j hj => ?_
  rw [List.getElem?_set]
  by_cases e : i = j
  · subst e
    rw [if_pos rfl, if_pos (by rw [tab_len]; exact h)]
    exact congrArg some (col_congr fun r _ _ => (if_pos rfl).symm)
  · rw [if_neg e, tab_get hj]
    exact congrArg some (col_congr fun r _ _ => (if_neg (by omega)).symm)
/-- turned about by so many -/
theorem rot_col {m : Nat} {g : Int → Int → Int} {f : Int} {c : Nat} (hc : c < m) : (col m g f).drop c ++ (col m g f).take c = col m (fun r f => g ((r + c) % m) f) f := by
  refine is_col (by simp [col]; omega) fun i hi => ?_
  rw [List.getElem?_append]
  simp only [List.length_drop, col_len]
  by_cases h : i < m - c
  · rw [if_pos h, List.getElem?_drop, col_get (by omega)]
    have : ((i : Int) + c) % m = ((c + i : Nat) : Int) := by rw [Int.emod_eq_of_lt (by omega) (by omega)]; omega
    rw [this]
  · rw [if_neg h, List.getElem?_take, if_pos (by omega), col_get (by omega)]
    have : ((i : Int) + c) % m = ((i - (m - c) : Nat) : Int) := by
      rw [show ((i : Int) + c) = ((i - (m - c) : Nat) : Int) + m by omega, Int.add_emod_right, Int.emod_eq_of_lt (by omega) (by omega)]
    rw [this]
theorem col_rev {m : Nat} {g : Int → Int → Int} {f : Int} : (col m g f).reverse = col m (fun r f => g (m - 1 - r) f) f := by
  refine is_col (by simp [col]) fun i hi => ?_
  rw [List.getElem?_reverse (by rw [col_len]; exact hi), col_len, col_get (by omega)]
  rw [show ((m - 1 - i : Nat) : Int) = m - 1 - i by omega]
/-! what slices with a step pick -/
theorem pick_col {m : Nat} {g : Int → Int → Int} {f : Int} {ks : List Nat} (h : ∀ k ∈ ks, k < m) : ks.filterMap ((col m g f)[·]?) = ks.map fun k : Nat => g k f := by
  induction ks with
  | nil => rfl
  | cons k ks ih => rw [List.filterMap_cons, col_get (h k (.head _)), List.map_cons, ih fun z hz => h z (.tail _ hz)]
theorem filterMap_ints {l : List Int} {ks : List Nat} : ks.filterMap ((l.map V.int)[·]?) = (ks.filterMap (l[·]?)).map V.int := by
  induction ks with
  | nil => rfl
  | cons k ks ih =>
    rw [List.filterMap_cons, List.filterMap_cons, ih, List.getElem?_map]
    cases l[k]? <;> rfl
theorem pickV_ints {l : List Int} {lo hi st : Option Int} : pickV (l.map V.int) lo hi st = ((places l.length lo hi st).filterMap (l[·]?)).map V.int := by
  unfold pickV
  rw [List.length_map, filterMap_ints]
theorem places_up {n c : Nat} (f : Nat) (hc : 1 ≤ c) (hf : f ≤ n) : places n (some (f : Int)) none (some (c : Int)) = (List.range ((n - f + c - 1) / c)).map fun i => f + c * i := by
  unfold places sliceBounds sliceRange
  simp only [Option.getD_some]
  have h1 : (c : Int) > 0 := by omega
  have h2 : ¬ ((f : Int) < 0) := by omega
  simp only [h1, h2, if_true, if_false]
  have e1 : max (0 : Int) (min (f : Int) (n : Int)) = f := by omega
  rw [e1]
  have e2 : (if (f : Int) < n then ((n : Int) - f + c - 1) / c else 0).toNat = (n - f + c - 1) / c := by
    by_cases h : f < n
    · rw [if_pos (by omega), show ((n : Int) - f + c - 1) = ((n - f + c - 1 : Nat) : Int) by omega, ← Int.natCast_ediv, Int.toNat_natCast]
    · rw [if_neg (by omega)]
      have : n - f + c - 1 = c - 1 := by omega
      rw [this, Nat.div_eq_of_lt (by omega)]
      rfl
  rw [e2]
  refine List.map_congr_left fun i _ => ?_
  have : (f : Int) + c * i = ((f + c * i : Nat) : Int) := by simp
  rw [this, Int.toNat_natCast]
theorem places_none {n c : Nat} (hc : 1 ≤ c) : places n none none (some (c : Int)) = places n (some ((0 : Nat) : Int)) none (some (c : Int)) := by
  unfold places sliceBounds
  simp only [Option.getD_some]
  have h1 : (c : Int) > 0 := by omega
  simp only [h1, if_true]
  have : max (0 : Int) (min (if (((0 : Nat) : Int) < 0) then ((0 : Nat) : Int) + n else ((0 : Nat) : Int)) (n : Int)) = 0 := by simp; omega
  rw [this]
theorem places_back {n : Nat} (b : Nat) (hb : b < n) : places n (some (b : Int)) none (some (-1)) = (List.range (b + 1)).map fun i => b - i := by
  unfold places sliceBounds sliceRange
  simp only [Option.getD_some]
  have h1 : ¬ ((-1 : Int) > 0) := by decide
  have h2 : ¬ ((b : Int) < 0) := by omega
  simp only [h1, h2, if_false]
  have e1 : max (-1 : Int) (min (b : Int) ((n : Int) - 1)) = b := by omega
  rw [e1, if_pos (by omega), show ((b : Int) - -1 - -1 - 1) / - -1 = ((b + 1 : Nat) : Int) by rw [show - -(1 : Int) = 1 by decide, Int.ediv_one]; omega, Int.toNat_natCast]
  refine List.map_congr_left fun i hi => ?_
  have := List.mem_range.mp hi
  omega
theorem places_rev {n : Nat} (hn : 0 < n) : places n none none (some (-1)) = (List.range n).map fun i => n - 1 - i := by
  have e : places n none none (some (-1)) = places n (some ((n - 1 : Nat) : Int)) none (some (-1)) := by
    unfold places sliceBounds
    simp only [Option.getD_some]
    have h1 : ¬ ((-1 : Int) > 0) := by decide
    have h2 : ¬ (((n - 1 : Nat) : Int) < 0) := by omega
    simp only [h1, h2, if_false]
    rw [show max (-1 : Int) (min ((n - 1 : Nat) : Int) ((n : Int) - 1)) = (n : Int) - 1 by omega]
  rw [e, places_back _ (by omega), show n - 1 + 1 = n by omega]
theorem rev_any {α : Type} {xs : List α} : ((List.range xs.length).map fun i => xs.length - 1 - i).filterMap (xs[·]?) = xs.reverse := by
  have fm : ∀ (ks : List Nat), (∀ i ∈ ks, i < xs.length) → (ks.map fun i => xs.length - 1 - i).filterMap (xs[·]?) = ks.filterMap (xs.reverse[·]?) := fun ks => by
    induction ks with
    | nil => intro _; rfl
    | cons k ks ih =>
      intro h
      rw [List.map_cons, List.filterMap_cons, List.filterMap_cons, ih fun i hi => h i (.tail _ hi), List.getElem?_reverse (h k (.head _))]
  have := fm (List.range xs.length) fun i hi => List.mem_range.mp hi
  rw [this]
  refine List.ext_getElem? fun i => ?_
  have g : ∀ (l : List α) (n : Nat), n = l.length → (List.range n).filterMap (l[·]?) = l := fun l n hn => by
    subst hn
    induction l with
    | nil => rfl
    | cons x l ih =>
      rw [List.length_cons, List.range_succ_eq_map, List.filterMap_cons, List.filterMap_map]
      show x :: (List.range l.length).filterMap ((fun i => (x :: l)[i]?) ∘ Nat.succ) = _
      rw [show ((fun i => (x :: l)[i]?) ∘ Nat.succ) = (l[·]?) from rfl, ih]
  rw [g _ _ (by simp)]
theorem pick_rev {xs : List V} : pickV xs none none (some (-1)) = xs.reverse := by
  unfold pickV
  by_cases h : 0 < xs.length
  · rw [places_rev h, rev_any]
  · have : xs = [] := List.eq_nil_of_length_eq_zero (by omega)
    subst this
    rfl
end Cl
namespace Cl
open PySem PySem.Spec PyProof.Rows L2 Sx Er
/-! what a slice with a step puts -/
theorem put_out {k : Nat} : ∀ {ks : List Nat} {xs ys : List V}, k ∉ ks → (putV xs ks ys)[k]? = xs[k]?
  | [], _, _, _ => rfl
  | _ :: _, _, [], _ => rfl
  | j :: ks, xs, y :: ys, h => by
    have h' : k ≠ j ∧ k ∉ ks := ⟨fun e => h (e ▸ .head _), fun e => h (.tail _ e)⟩
    show (putV (xs.set j y) ks ys)[k]? = _
    rw [put_out h'.2, List.getElem?_set_ne (Ne.symm h'.1)]
theorem put_in {k : Nat} {y : V} : ∀ {ks : List Nat} {xs ys : List V} {j : Nat}, ks.Nodup → ks[j]? = some k → ys[j]? = some y → k < xs.length → (putV xs ks ys)[k]? = some y
  | [], _, _, j, _, h, _, _ => by simp at h
  | _ :: _, _, [], j, _, _, h, _ => by simp at h
  | i :: ks, xs, z :: ys, 0, nd, h, h', hk => by
    have nd' := List.nodup_cons.mp nd
    have e : i = k := by simpa using h
    have e' : z = y := by simpa using h'
    subst e e'
    show (putV (xs.set i z) ks ys)[i]? = _
    rw [put_out nd'.1, List.getElem?_set_self hk]
  | i :: ks, xs, z :: ys, j + 1, nd, h, h', hk => by
    have nd' := List.nodup_cons.mp nd
    show (putV (xs.set i z) ks ys)[k]? = _
    exact put_in nd'.2 (by simpa using h) (by simpa using h') (by rw [List.length_set]; exact hk)
def steps (s d c : Nat) : List Nat := (List.range c).map fun i => s + d * i
theorem steps_nodup {s d c : Nat} (hd : 0 < d) : (steps s d c).Nodup := by
  unfold steps
  refine List.pairwise_map.mpr ((List.nodup_range (n := c)).imp fun h e => h ?_)
  exact Nat.eq_of_mul_eq_mul_left hd (by omega)
theorem steps_get {s d c j : Nat} (h : j < c) : (steps s d c)[j]? = some (s + d * j) := by
  unfold steps
  rw [List.getElem?_map, List.getElem?_range h]
  rfl
theorem steps_mem {s d c k : Nat} : k ∈ steps s d c ↔ ∃ j, j < c ∧ s + d * j = k := by
  unfold steps
  simp [List.mem_map, List.mem_range]
theorem put_steps {xs ys : List V} {s d c j : Nat} {y : V} (hd : 0 < d) (hj : j < c) (hy : ys[j]? = some y) (hk : s + d * j < xs.length) : (putV xs (steps s d c) ys)[s + d * j]? = some y :=
  put_in (steps_nodup hd) (steps_get hj) hy hk
end Cl

set_option Elab.async false
set_option linter.all false
set_option maxRecDepth 100000
set_option maxHeartbeats 4000000
/-! inversions of a list, and of images of images -/
namespace Ivs
def cntLt (x : Int) (l : List Int) : Nat := (l.filter fun y => decide (y < x)).length
def ivs : List Int → Nat
  | [] => 0
  | x :: xs => cntLt x xs + ivs xs
def disc (s : Int → Int → Nat) : List Int → Nat
  | [] => 0
  | x :: xs => (xs.map (s x)).sum + disc s xs
def sgn (σ : Int → Int) (x y : Int) : Nat := if (x < y ∧ σ y < σ x) ∨ (y < x ∧ σ x < σ y) then 1 else 0
theorem perm_of {l m : List Int} (nd : l.Nodup) (hs : ∀ x ∈ l, x ∈ m) (hl : m.length ≤ l.length) : l.Perm m := by
  induction l generalizing m with
  | nil =>
    have : m = [] := List.eq_nil_of_length_eq_zero (by simpa using hl)
    rw [this]
  | cons x l ih =>
    have hx := hs x (.head _)
    have n := List.nodup_cons.mp nd
    refine List.Perm.trans (List.Perm.cons x (ih n.2 (fun y hy => ?_) ?_)) (List.perm_cons_erase hx).symm
    · exact (List.mem_erase_of_ne (fun e : y = x => n.1 (by rw [← e]; exact hy))).mpr (hs y (.tail _ hy))
    · rw [List.length_erase_of_mem hx]; simp only [List.length_cons] at hl; omega
/-- 0, 1, .. -/
def rg (n : Nat) : List Int := (List.range n).map fun i : Nat => (i : Int)
theorem rg_sorted (n : Nat) : (rg n).Pairwise (· < ·) := by
  unfold rg
  rw [List.pairwise_map]
  exact (List.pairwise_lt_range (n := n)).imp fun h => by omega
theorem mem_rg {n : Nat} {x : Int} : x ∈ rg n ↔ 0 ≤ x ∧ x < n := by
  unfold rg
  simp only [List.mem_map, List.mem_range]
  constructor
  · rintro ⟨i, hi, rfl⟩; omega
  · intro h; exact ⟨x.toNat, by omega, by omega⟩
theorem rg_length (n : Nat) : (rg n).length = n := by simp [rg]
/-- what has been counted of the pairs, and what is left -/
theorem inv_drop {l : List Int} {i : Nat} {x : Int} (h : l[i]? = some x) : ivs (l.drop i) = cntLt x (l.drop (i + 1)) + ivs (l.drop (i + 1)) := by
  have hi := (List.getElem?_eq_some_iff.mp h)
  rw [List.drop_eq_getElem_cons hi.1, hi.2]
  rfl
end Ivs

set_option Elab.async false
set_option linter.all false
set_option maxRecDepth 100000
set_option maxHeartbeats 8000000
namespace My
open PySem PySem.Spec PyProof.Rows L2 Sx
local macro_rules | `(tactic| walk_at "nb") => `(tactic| first | exact NB.tup | exact NB.ints | exact NB.len (of_decide_eq_true rfl) | exact NB.at0b rfl | exact NB.at3b rfl | exact NB.ins | exact NB.own | exact NB.frz | exact NB.refs (by assumption) | assumption)
local macro_rules | `(tactic| walk_at "ne") => `(tactic| first | assumption | exact Ne.symm (by assumption) | exact ne_of_none (by assumption) (by assumption) | exact Ne.symm (ne_of_none (by assumption) (by assumption)))
local macro_rules | `(tactic| walk_at "hk") => `(tactic| first
  | assumption
  | exact upd_same
  | (refine' (upd_ne ?hkne).trans ?hkq; (case hkne => walk_at "ne"); (case hkq => walk_at "hk"))
  | (refine' Ex.kp (by assumption) _ _ ?hkq ?hkn; (case hkq => walk_at "hk"); (case hkn => walk_at "nb")))
local macro_rules | `(tactic| walk_at "rd1") => `(tactic| first
  | ((with_reducible refine' x_var ?hx ?_); (case hx => exact rfl))
  | with_reducible refine x_c ?_
  | with_reducible refine x_op ?_
  | with_reducible refine x_un ?_
  | with_reducible refine x_I0 ?_
  | with_reducible refine x_U ?_
  | ((with_reducible refine x_I ?hc ?_); (case hc => first | exact (by decide : (0 : Int) < _) | (show (0 : Int) < _; omega) | (show CMul _ _; first | exact .inl ⟨by omega, by omega⟩ | exact .inr ⟨by omega, by omega⟩) | (show CDiv _ _; exact ⟨by omega, by omega⟩) | (show CDivW _ _; exact wide_div (b := 200) (by omega) (by assumption) (by decide) (by decide)) | (show CDivW _ _; exact wide_div (b := 31) (by omega) (by omega) (by decide) (by decide))))
  | with_reducible refine x_EqI ?_
  | with_reducible refine x_NeI ?_
  | ((with_reducible refine x_EqSt ?h ?_); (case h => decide +kernel))
  | ((with_reducible refine x_EqSf ?h ?_); (case h => decide +kernel))
  | ((with_reducible refine x_NeSt ?h ?_); (case h => decide +kernel))
  | ((with_reducible refine x_NeSf ?h ?_); (case h => decide +kernel))
  | with_reducible refine x_EqS ?_
  | with_reducible refine x_NeS ?_
  | ((with_reducible refine' x_ixL ?hq ?hi ?_); (case hq => walk_at "hk"); (case hi => first | exact rfl | assumption))
  | ((with_reducible refine' x_ixT ?hq ?hi ?_); (case hq => walk_at "hk"); (case hi => first | exact rfl | assumption))
  | with_reducible refine x_chain ?_
  | with_reducible refine x_tup ?_
  | with_reducible refine x_lst ?_
  | ((with_reducible refine x_lenNew ?hl ?_); (case hl => exact Nat.le_of_ble_eq_true rfl); intro _ _ _ _ _)
  | ((with_reducible refine x_new ?_); intro _ _ _ _ _)
  | with_reducible refine x_sl ?_
  | with_reducible refine x_noPart ?_
  | with_reducible refine x_part ?_
  | with_reducible refine x_ex_int ?_
  | with_reducible refine x_ex_bl ?_
  | with_reducible refine x_ex_2 ?_
  | with_reducible refine x_test ?_
  | with_reducible refine x_B ?_
  | with_reducible refine x_and ?_
  | with_reducible refine x_or ?_
  | with_reducible refine x_not ?_
  | with_reducible refine x_andV ?_
  | with_reducible refine x_orV ?_
  | with_reducible refine x_notV ?_
  | with_reducible refine x_ifE ?_
  | with_reducible refine x_iteT ?_
  | with_reducible refine x_iteF ?_
  | ((with_reducible refine x_iteD ?_ ?_) <;> intro _)
  | ((with_reducible refine x_iteN ?_ ?_) <;> intro _)
  | with_reducible refine x_if ?_
  | with_reducible refine x_seq ?_
  | with_reducible refine x_next ?_
  | with_reducible refine x_asg ?_
  | with_reducible refine x_gName ?_
  | ((with_reducible refine' x_gTup ?hq ?hn ?_); (case hq => walk_at "hk"); (case hn => exact rfl))
  | with_reducible refine x_gCons ?_
  | with_reducible refine x_gNil ?_
  | ((with_reducible refine' x_gConsE ?h ?_); (case h => exact rfl))
  | ((with_reducible refine x_gNilE ?h ?_); (case h => exact rfl))
  | with_reducible refine x_ret ?_
  | with_reducible refine x_drop ?_
  | with_reducible refine x_par ?_
  | ((with_reducible refine' x_aug ?hx ?_); (case hx => exact rfl))
  | with_reducible refine x_ipI ?_
  | with_reducible refine x_augS ?_
  | with_reducible refine x_gSub ?_
  | ((with_reducible refine' x_setL ?hq ?hi ?_); (case hq => walk_at "hk"); (case hi => first | exact rfl | assumption))
  | with_reducible refine x_cons ?_
  | with_reducible refine x_nil ?_
  | with_reducible refine x_CB ?_
  | with_reducible refine x_abs ?_
  | with_reducible refine x_intI ?_
  | with_reducible refine x_intB ?_
  | ((with_reducible refine' x_lenL ?hq ?_); (case hq => walk_at "hk"))
  | ((with_reducible refine' x_lenT ?hq ?_); (case hq => walk_at "hk"))
  | ((with_reducible refine x_iteTe ?h ?_); (case h => exact rfl))
  | ((with_reducible refine x_iteFe ?h ?_); (case h => exact rfl))
  | walk_at "use"
  | with_reducible refine x_callS ?_
  | ((with_reducible refine x_lc ?_))
  | ((with_reducible refine x_for ?_))
  | ((with_reducible refine x_iR1 ?_))
  | ((with_reducible refine x_iL ?_))
  | ((with_reducible refine x_iZ ?_))
  | ((with_reducible refine x_yes ?_))
  | ((with_reducible refine' x_NIDt ?hq ?_); (case hq => assumption))
  | ((with_reducible refine' x_NIDf ?hq ?_); (case hq => assumption))
  | ((with_reducible refine' x_IIDf ?hq ?_); (case hq => assumption))
  | ((with_reducible refine' x_IIDt ?hq ?_); (case hq => assumption))
  | ((with_reducible refine' x_ixDs ?hd ?hq ?_); (case hd => assumption); (case hq => assumption))
  | ((with_reducible refine x_InSt ?h ?_); (case h => decide +kernel))
  | ((with_reducible refine x_InSf ?h ?_); (case h => decide +kernel))
  | ((with_reducible refine' x_notInI ?hq ?_); (case hq => walk_at "hk"))
  | ((with_reducible refine' x_inTt ?hq ?hv ?ha ?he ?_); (case hq => walk_at "hk"); (case hv => exact rfl); (case ha => exact rfl); (case he => decide +kernel))
  | ((with_reducible refine' x_inTf ?hq ?hv ?ha ?he ?_); (case hq => walk_at "hk"); (case hv => exact rfl); (case ha => exact rfl); (case he => decide +kernel))
  | ((with_reducible refine' x_slT ?hq ?hw ?_); (case hq => walk_at "hk"); (case hw => with_unfolding_all exact of_decide_eq_true rfl))
  | ((with_reducible refine' x_slL ?hq ?_); (case hq => walk_at "hk"))
  | ((with_reducible refine' x_catT ?hq ?hr ?n1 ?n2 ?hl ?_); (case hq => walk_at "hk"); (case hr => walk_at "hk"); (case n1 => exact List.cons_ne_nil _ _); (case n2 => exact List.cons_ne_nil _ _); (case hl => exact Nat.le_of_ble_eq_true rfl))
  | ((with_reducible refine x_bm ?_))
  | ((with_reducible refine x_lstRg ?_))
  | ((with_reducible refine x_rg1 ?_))
  | ((with_reducible refine And.intro ?h ?_); (case h => exact tyL (by assumption)))
  | dsimp only)
local macro_rules | `(tactic| walk_at "use") => `(tactic| fail)
local macro_rules | `(tactic| walk_at "rd") => `(tactic| repeat' (walk_at "rd1"))
local macro_rules | `(tactic| walk_at "ex") => `(tactic| first | exact Ex.refl _ | assumption | (refine' Ex.trans ?he (by assumption); (case he => walk_at "ex")))

def top (i : Nat) : Stmt := PySem.Challenge.pw_pupilpairs_k28_whole_rounds_add_up.main.body.getD i (.Pass ⟨0, 0, 0, 0⟩)
abbrev s_is_integer : Stmt := top 2
theorem sc_is_integer : FnScope ["thing"] ["thing"] (defScope s_is_integer) := ⟨rfl, rfl, rfl, by decide +kernel, rfl, by decide +kernel, by decide +kernel⟩
abbrev s_is_files : Stmt := top 3
theorem sc_is_files : FnScope ["thing"] ["thing"] (defScope s_is_files) := ⟨rfl, rfl, rfl, by decide +kernel, rfl, by decide +kernel, by decide +kernel⟩
abbrev s_is_rows : Stmt := top 4
theorem sc_is_rows : FnScope ["thing"] ["thing"] (defScope s_is_rows) := ⟨rfl, rfl, rfl, by decide +kernel, rfl, by decide +kernel, by decide +kernel⟩
abbrev s_is_index : Stmt := top 5
theorem sc_is_index : FnScope ["thing", "many"] ["thing", "many"] (defScope s_is_index) := ⟨rfl, rfl, rfl, by decide +kernel, rfl, by decide +kernel, by decide +kernel⟩
abbrev s_is_part : Stmt := top 9
theorem sc_is_part : FnScope ["files", "part", "item"] ["files", "part", "item"] (defScope s_is_part) := ⟨rfl, rfl, rfl, by decide +kernel, rfl, by decide +kernel, by decide +kernel⟩
abbrev s_is_call : Stmt := top 10
theorem sc_is_call : FnScope ["files", "thing", "word", "parts", "named", "part", "item"] ["files", "thing"] (defScope s_is_call) := ⟨rfl, rfl, rfl, by decide +kernel, rfl, by decide +kernel, by decide +kernel⟩
abbrev s_is_straight : Stmt := top 11
theorem sc_is_straight : FnScope ["call"] ["call"] (defScope s_is_straight) := ⟨rfl, rfl, rfl, by decide +kernel, rfl, by decide +kernel, by decide +kernel⟩
abbrev s_turned : Stmt := top 12
theorem sc_turned : FnScope ["call"] ["call"] (defScope s_turned) := ⟨rfl, rfl, rfl, by decide +kernel, rfl, by decide +kernel, by decide +kernel⟩
abbrev s_files_of : Stmt := top 13
theorem sc_files_of : FnScope ["call", "part", "item"] ["call"] (defScope s_files_of) := ⟨rfl, rfl, rfl, by decide +kernel, rfl, by decide +kernel, by decide +kernel⟩
abbrev s_moved_by : Stmt := top 14
theorem sc_moved_by : FnScope ["call", "files", "rows", "place", "row", "file", "cut", "ahead", "behind", "to", "sign", "shift"] ["call", "files", "rows", "place"] (defScope s_moved_by) := ⟨rfl, rfl, rfl, by decide +kernel, rfl, by decide +kernel, by decide +kernel⟩
abbrev s_cut_of : Stmt := top 15
theorem sc_cut_of : FnScope ["call", "files", "rows", "file", "word", "across"] ["call", "files", "rows", "file"] (defScope s_cut_of) := ⟨rfl, rfl, rfl, by decide +kernel, rfl, by decide +kernel, by decide +kernel⟩
abbrev s_whole : Stmt := top 16
theorem sc_whole : FnScope ["way"] ["way"] (defScope s_whole) := ⟨rfl, rfl, rfl, by decide +kernel, rfl, by decide +kernel, by decide +kernel⟩
abbrev s_cut_of_up : Stmt := top 17
theorem sc_cut_of_up : FnScope ["k", "rows", "file", "cut"] ["k", "rows", "file"] (defScope s_cut_of_up) := ⟨rfl, rfl, rfl, by decide +kernel, rfl, by decide +kernel, by decide +kernel⟩
abbrev s_cut_of_wheel : Stmt := top 18
theorem sc_cut_of_wheel : FnScope ["call", "rows", "file", "rising", "falling", "k", "over"] ["call", "rows", "file"] (defScope s_cut_of_wheel) := ⟨rfl, rfl, rfl, by decide +kernel, rfl, by decide +kernel, by decide +kernel⟩
abbrev s_moved_by_open_call : Stmt := top 19
theorem sc_moved_by_open_call : FnScope ["word", "files", "rows", "place", "row", "file", "number", "evens"] ["word", "files", "rows", "place"] (defScope s_moved_by_open_call) := ⟨rfl, rfl, rfl, by decide +kernel, rfl, by decide +kernel, by decide +kernel⟩
abbrev s_is_place : Stmt := top 27
theorem sc_is_place : FnScope ["files", "rows", "thing"] ["files", "rows", "thing"] (defScope s_is_place) := ⟨rfl, rfl, rfl, by decide +kernel, rfl, by decide +kernel, by decide +kernel⟩
abbrev s_number_of : Stmt := top 28
theorem sc_number_of : FnScope ["files", "place", "row", "file"] ["files", "place"] (defScope s_number_of) := ⟨rfl, rfl, rfl, by decide +kernel, rfl, by decide +kernel, by decide +kernel⟩
abbrev s_place_of : Stmt := top 29
theorem sc_place_of : FnScope ["files", "number"] ["files", "number"] (defScope s_place_of) := ⟨rfl, rfl, rfl, by decide +kernel, rfl, by decide +kernel, by decide +kernel⟩
abbrev s_moved : Stmt := top 30
theorem sc_moved : FnScope ["script", "rows", "place"] ["script", "rows", "place"] (defScope s_moved) := ⟨rfl, rfl, rfl, by decide +kernel, rfl, by decide +kernel, by decide +kernel⟩
abbrev s_passed : Stmt := top 31
theorem sc_passed : FnScope ["script", "rows", "place", "places", "call"] ["script", "rows", "place"] (defScope s_passed) := ⟨rfl, rfl, rfl, by decide +kernel, rfl, by decide +kernel, by decide +kernel⟩
abbrev s_behind_all : Stmt := top 36
theorem sc_behind_all : FnScope ["columns", "call", "cut", "column"] ["columns", "call"] (defScope s_behind_all) := ⟨rfl, rfl, rfl, by decide +kernel, rfl, by decide +kernel, by decide +kernel⟩
abbrev s_behind_up : Stmt := top 37
theorem sc_behind_up : FnScope ["columns", "call", "told", "column", "cut"] ["columns", "call"] (defScope s_behind_up) := ⟨rfl, rfl, rfl, by decide +kernel, rfl, by decide +kernel, by decide +kernel⟩
abbrev s_behind_swap : Stmt := top 38
theorem sc_behind_swap : FnScope ["columns", "call", "f", "g", "told"] ["columns", "call"] (defScope s_behind_swap) := ⟨rfl, rfl, rfl, by decide +kernel, rfl, by decide +kernel, by decide +kernel⟩
abbrev s_behind_wheel : Stmt := top 39
theorem sc_behind_wheel : FnScope ["columns", "call", "f", "g", "k", "told", "rows", "ring", "cut"] ["columns", "call"] (defScope s_behind_wheel) := ⟨rfl, rfl, rfl, by decide +kernel, rfl, by decide +kernel, by decide +kernel⟩
abbrev s_behind_about : Stmt := top 40
theorem sc_behind_about : FnScope ["columns", "call", "column"] ["columns", "call"] (defScope s_behind_about) := ⟨rfl, rfl, rfl, by decide +kernel, rfl, by decide +kernel, by decide +kernel⟩
abbrev s_behind_front : Stmt := top 41
theorem sc_behind_front : FnScope ["columns", "call", "f", "g", "told"] ["columns", "call"] (defScope s_behind_front) := ⟨rfl, rfl, rfl, by decide +kernel, rfl, by decide +kernel, by decide +kernel⟩
abbrev s_behind_halve : Stmt := top 42
theorem sc_behind_halve : FnScope ["columns", "call", "order", "rows", "begin"] ["columns", "call"] (defScope s_behind_halve) := ⟨rfl, rfl, rfl, by decide +kernel, rfl, by decide +kernel, by decide +kernel⟩
abbrev s_behind_pair : Stmt := top 43
theorem sc_behind_pair : FnScope ["columns", "call", "column", "pupil"] ["columns", "call"] (defScope s_behind_pair) := ⟨rfl, rfl, rfl, by decide +kernel, rfl, by decide +kernel, by decide +kernel⟩
abbrev s_behind_others : Stmt := top 44
theorem sc_behind_others : FnScope ["columns", "call", "column"] ["columns", "call"] (defScope s_behind_others) := ⟨rfl, rfl, rfl, by decide +kernel, rfl, by decide +kernel, by decide +kernel⟩
abbrev s_behind_fill : Stmt := top 45
theorem sc_behind_fill : FnScope ["columns", "call", "evens", "told", "file", "column"] ["columns", "call"] (defScope s_behind_fill) := ⟨rfl, rfl, rfl, by decide +kernel, rfl, by decide +kernel, by decide +kernel⟩
abbrev s_columns_led : Stmt := top 47
theorem sc_columns_led : FnScope ["columns", "calls", "call", "action"] ["columns", "calls"] (defScope s_columns_led) := ⟨rfl, rfl, rfl, by decide +kernel, rfl, by decide +kernel, by decide +kernel⟩
abbrev s_columns_of : Stmt := top 48
theorem sc_columns_of : FnScope ["order", "files", "file"] ["order", "files"] (defScope s_columns_of) := ⟨rfl, rfl, rfl, by decide +kernel, rfl, by decide +kernel, by decide +kernel⟩
abbrev s_order_of : Stmt := top 49
theorem sc_order_of : FnScope ["columns", "files", "told", "file"] ["columns"] (defScope s_order_of) := ⟨rfl, rfl, rfl, by decide +kernel, rfl, by decide +kernel, by decide +kernel⟩
abbrev s_first_columns : Stmt := top 50
theorem sc_first_columns : FnScope ["files", "rows"] ["files", "rows"] (defScope s_first_columns) := ⟨rfl, rfl, rfl, by decide +kernel, rfl, by decide +kernel, by decide +kernel⟩
abbrev s_order_behind : Stmt := top 51
theorem sc_order_behind : FnScope ["script", "rows"] ["script", "rows"] (defScope s_order_behind) := ⟨rfl, rfl, rfl, by decide +kernel, rfl, by decide +kernel, by decide +kernel⟩
abbrev s_moves_of : Stmt := top 52
theorem sc_moves_of : FnScope ["script", "rows"] ["script", "rows"] (defScope s_moves_of) := ⟨rfl, rfl, rfl, by decide +kernel, rfl, by decide +kernel, by decide +kernel⟩
abbrev s_followed : Stmt := top 53
theorem sc_followed : FnScope ["one", "other", "number"] ["one", "other"] (defScope s_followed) := ⟨rfl, rfl, rfl, by decide +kernel, rfl, by decide +kernel, by decide +kernel⟩
abbrev s_repeated : Stmt := top 54
theorem sc_repeated : FnScope ["moves", "many", "result"] ["moves", "many"] (defScope s_repeated) := ⟨rfl, rfl, rfl, by decide +kernel, rfl, by decide +kernel, by decide +kernel⟩
abbrev s_rearranged : Stmt := top 55
theorem sc_rearranged : FnScope ["pupils", "moves", "result", "pupil", "number"] ["pupils", "moves"] (defScope s_rearranged) := ⟨rfl, rfl, rfl, by decide +kernel, rfl, by decide +kernel, by decide +kernel⟩
abbrev s_Lbag : Stmt := top 58
theorem sc_Lbag : FnScope ["_law_script", "_law_cell"] ["_law_script"] (defScope s_Lbag) := ⟨rfl, rfl, rfl, by decide +kernel, rfl, by decide +kernel, by decide +kernel⟩
abbrev s_Ltake : Stmt := top 59
theorem sc_Ltake : FnScope ["_law_bag_here", "_law_many", "_law_cell", "_law_mixed_here", "_law_drawn", "_law_begin", "_law_second"] ["_law_bag_here", "_law_many"] (defScope s_Ltake) := ⟨rfl, rfl, rfl, by decide +kernel, rfl, by decide +kernel, by decide +kernel⟩
abbrev s_Lone : Stmt := top 60
theorem sc_Lone : FnScope ["_law_bag_here", "_law_some"] ["_law_bag_here", "_law_some"] (defScope s_Lone) := ⟨rfl, rfl, rfl, by decide +kernel, rfl, by decide +kernel, by decide +kernel⟩
abbrev s_Lmixed : Stmt := top 61
theorem sc_Lmixed : FnScope ["_law_bag_here", "_law_things", "_law_found", "_law_thing"] ["_law_bag_here", "_law_things"] (defScope s_Lmixed) := ⟨rfl, rfl, rfl, by decide +kernel, rfl, by decide +kernel, by decide +kernel⟩
abbrev s_Lnumber : Stmt := top 62
theorem sc_Lnumber : FnScope ["_law_bag_here", "_law_most", "_law_number_here"] ["_law_bag_here", "_law_most"] (defScope s_Lnumber) := ⟨rfl, rfl, rfl, by decide +kernel, rfl, by decide +kernel, by decide +kernel⟩
abbrev s_Ltwo : Stmt := top 63
theorem sc_Ltwo : FnScope ["_law_bag_here", "_law_files", "_law_some"] ["_law_bag_here", "_law_files"] (defScope s_Ltwo) := ⟨rfl, rfl, rfl, by decide +kernel, rfl, by decide +kernel, by decide +kernel⟩
abbrev s_Lcall : Stmt := top 64
theorem sc_Lcall : FnScope ["_law_bag_here", "_law_files", "_law_kinds", "_law_most", "_law_kind"] ["_law_bag_here", "_law_files", "_law_kinds", "_law_most"] (defScope s_Lcall) := ⟨rfl, rfl, rfl, by decide +kernel, rfl, by decide +kernel, by decide +kernel⟩
abbrev s_Lall_kinds : Stmt := top 65
theorem sc_Lall_kinds : FnScope [] [] (defScope s_Lall_kinds) := ⟨rfl, rfl, rfl, by decide +kernel, rfl, by decide +kernel, by decide +kernel⟩
abbrev s_Lcalls : Stmt := top 66
theorem sc_Lcalls : FnScope ["_law_bag_here", "_law_files", "_law_kinds", "_law_many", "_law_found", "_law_left", "_law_k", "_law_call_here", "_law_size"] ["_law_bag_here", "_law_files", "_law_kinds", "_law_many"] (defScope s_Lcalls) := ⟨rfl, rfl, rfl, by decide +kernel, rfl, by decide +kernel, by decide +kernel⟩
abbrev s_Lbegun : Stmt := top 67
theorem sc_Lbegun : FnScope ["_law_bag_here", "_law_files", "_law_rows", "_law_line", "_law_call_here"] ["_law_bag_here", "_law_files", "_law_rows"] (defScope s_Lbegun) := ⟨rfl, rfl, rfl, by decide +kernel, rfl, by decide +kernel, by decide +kernel⟩
abbrev s_Lbehind : Stmt := top 68
theorem sc_Lbehind : FnScope ["_law_line", "_law_some", "_law_rounds", "_law_later"] ["_law_line", "_law_some", "_law_rounds"] (defScope s_Lbehind) := ⟨rfl, rfl, rfl, by decide +kernel, rfl, by decide +kernel, by decide +kernel⟩
abbrev s_Lplaces_right : Stmt := top 69
theorem sc_Lplaces_right : FnScope ["_law_bag_here", "_law_one_here", "_law_other", "_law_files", "_law_rows", "_law_found", "_law_goals", "_law_place", "_law_goal"] ["_law_bag_here", "_law_one_here", "_law_other", "_law_files", "_law_rows"] (defScope s_Lplaces_right) := ⟨rfl, rfl, rfl, by decide +kernel, rfl, by decide +kernel, by decide +kernel⟩
abbrev s_law : Stmt := top 70
theorem sc_law : FnScope ["_law_script", "_law_bag_here", "_law_turn", "_law_files", "_law_rows", "_law_line", "_law_one_here", "_law_other", "_law_first", "_law_second", "_law_both", "_law_times"] ["_law_script"] (defScope s_law) := ⟨rfl, rfl, rfl, by decide +kernel, rfl, by decide +kernel, by decide +kernel⟩
abbrev s_Script_init : Stmt := inClass (top 33) 0
theorem sc_Script_init : FnScope ["self", "files", "calls", "call"] ["self", "files", "calls"] (defScope s_Script_init) := ⟨rfl, rfl, rfl, by decide +kernel, rfl, by decide +kernel, by decide +kernel⟩
abbrev s_Script_len : Stmt := inClass (top 33) 2
abbrev s_Script_iter : Stmt := inClass (top 33) 3
theorem sc_Script_iter : FnScope ["self"] ["self"] (defScope s_Script_iter) := ⟨rfl, rfl, rfl, by decide +kernel, rfl, by decide +kernel, by decide +kernel⟩
abbrev s_Script_mul : Stmt := inClass (top 33) 4
theorem sc_Script_mul : FnScope ["self", "other"] ["self", "other"] (defScope s_Script_mul) := ⟨rfl, rfl, rfl, by decide +kernel, rfl, by decide +kernel, by decide +kernel⟩
abbrev s_Script_invert : Stmt := inClass (top 33) 5
theorem sc_Script_invert : FnScope ["self", "call"] ["self"] (defScope s_Script_invert) := ⟨rfl, rfl, rfl, by decide +kernel, rfl, by decide +kernel, by decide +kernel⟩
abbrev s_Script_files : Stmt := inClass (top 33) 6
theorem sc_Script_files : FnScope ["self"] ["self"] (defScope s_Script_files) := ⟨rfl, rfl, rfl, by decide +kernel, rfl, by decide +kernel, by decide +kernel⟩
abbrev s_Script_calls : Stmt := inClass (top 33) 8
theorem sc_Script_calls : FnScope ["self"] ["self"] (defScope s_Script_calls) := ⟨rfl, rfl, rfl, by decide +kernel, rfl, by decide +kernel, by decide +kernel⟩
abbrev s_Script_times : Stmt := inClass (top 33) 11
theorem sc_Script_times : FnScope ["self", "k", "once"] ["self", "k"] (defScope s_Script_times) := ⟨rfl, rfl, rfl, by decide +kernel, rfl, by decide +kernel, by decide +kernel⟩
abbrev s_Line_init : Stmt := inClass (top 56) 0
theorem sc_Line_init : FnScope ["self", "files", "rows"] ["self", "files", "rows"] (defScope s_Line_init) := ⟨rfl, rfl, rfl, by decide +kernel, rfl, by decide +kernel, by decide +kernel⟩
abbrev s_Line_eq : Stmt := inClass (top 56) 1
theorem sc_Line_eq : FnScope ["self", "other"] ["self", "other"] (defScope s_Line_eq) := ⟨rfl, rfl, rfl, by decide +kernel, rfl, by decide +kernel, by decide +kernel⟩
abbrev s_Line_order : Stmt := inClass (top 56) 6
theorem sc_Line_order : FnScope ["self"] ["self"] (defScope s_Line_order) := ⟨rfl, rfl, rfl, by decide +kernel, rfl, by decide +kernel, by decide +kernel⟩
abbrev s_Line_do : Stmt := inClass (top 56) 12
theorem sc_Line_do : FnScope ["self", "thing", "calls"] ["self", "thing"] (defScope s_Line_do) := ⟨rfl, rfl, rfl, by decide +kernel, rfl, by decide +kernel, by decide +kernel⟩
abbrev s_Line_go : Stmt := inClass (top 56) 13
theorem sc_Line_go : FnScope ["self", "script", "rounds", "once"] ["self", "script", "rounds"] (defScope s_Line_go) := ⟨rfl, rfl, rfl, by decide +kernel, rfl, by decide +kernel, by decide +kernel⟩
abbrev s_Line_copied : Stmt := inClass (top 56) 14
theorem sc_Line_copied : FnScope ["self", "other"] ["self"] (defScope s_Line_copied) := ⟨rfl, rfl, rfl, by decide +kernel, rfl, by decide +kernel, by decide +kernel⟩
structure Ad where
  a_is_integer : Addr
  fd_is_integer : FuncData
  a_is_files : Addr
  fd_is_files : FuncData
  a_is_rows : Addr
  fd_is_rows : FuncData
  a_is_index : Addr
  fd_is_index : FuncData
  a_is_part : Addr
  fd_is_part : FuncData
  a_is_call : Addr
  fd_is_call : FuncData
  a_is_straight : Addr
  fd_is_straight : FuncData
  a_turned : Addr
  fd_turned : FuncData
  a_files_of : Addr
  fd_files_of : FuncData
  a_moved_by : Addr
  fd_moved_by : FuncData
  a_cut_of : Addr
  fd_cut_of : FuncData
  a_whole : Addr
  fd_whole : FuncData
  a_cut_of_up : Addr
  fd_cut_of_up : FuncData
  a_cut_of_wheel : Addr
  fd_cut_of_wheel : FuncData
  a_moved_by_open_call : Addr
  fd_moved_by_open_call : FuncData
  a_is_place : Addr
  fd_is_place : FuncData
  a_number_of : Addr
  fd_number_of : FuncData
  a_place_of : Addr
  fd_place_of : FuncData
  a_moved : Addr
  fd_moved : FuncData
  a_passed : Addr
  fd_passed : FuncData
  a_behind_all : Addr
  fd_behind_all : FuncData
  a_behind_up : Addr
  fd_behind_up : FuncData
  a_behind_swap : Addr
  fd_behind_swap : FuncData
  a_behind_wheel : Addr
  fd_behind_wheel : FuncData
  a_behind_about : Addr
  fd_behind_about : FuncData
  a_behind_front : Addr
  fd_behind_front : FuncData
  a_behind_halve : Addr
  fd_behind_halve : FuncData
  a_behind_pair : Addr
  fd_behind_pair : FuncData
  a_behind_others : Addr
  fd_behind_others : FuncData
  a_behind_fill : Addr
  fd_behind_fill : FuncData
  a_columns_led : Addr
  fd_columns_led : FuncData
  a_columns_of : Addr
  fd_columns_of : FuncData
  a_order_of : Addr
  fd_order_of : FuncData
  a_first_columns : Addr
  fd_first_columns : FuncData
  a_order_behind : Addr
  fd_order_behind : FuncData
  a_moves_of : Addr
  fd_moves_of : FuncData
  a_followed : Addr
  fd_followed : FuncData
  a_repeated : Addr
  fd_repeated : FuncData
  a_rearranged : Addr
  fd_rearranged : FuncData
  a_Lbag : Addr
  fd_Lbag : FuncData
  a_Ltake : Addr
  fd_Ltake : FuncData
  a_Lone : Addr
  fd_Lone : FuncData
  a_Lmixed : Addr
  fd_Lmixed : FuncData
  a_Lnumber : Addr
  fd_Lnumber : FuncData
  a_Ltwo : Addr
  fd_Ltwo : FuncData
  a_Lcall : Addr
  fd_Lcall : FuncData
  a_Lall_kinds : Addr
  fd_Lall_kinds : FuncData
  a_Lcalls : Addr
  fd_Lcalls : FuncData
  a_Lbegun : Addr
  fd_Lbegun : FuncData
  a_Lbehind : Addr
  fd_Lbehind : FuncData
  a_Lplaces_right : Addr
  fd_Lplaces_right : FuncData
  a_law : Addr
  fd_law : FuncData
  a_Script_init : Addr
  fd_Script_init : FuncData
  a_Script_len : Addr
  fd_Script_len : FuncData
  a_Script_iter : Addr
  fd_Script_iter : FuncData
  a_Script_mul : Addr
  fd_Script_mul : FuncData
  a_Script_invert : Addr
  fd_Script_invert : FuncData
  a_Script_files : Addr
  fd_Script_files : FuncData
  a_Script_calls : Addr
  fd_Script_calls : FuncData
  a_Script_times : Addr
  fd_Script_times : FuncData
  a_Line_init : Addr
  fd_Line_init : FuncData
  a_Line_eq : Addr
  fd_Line_eq : FuncData
  a_Line_order : Addr
  fd_Line_order : FuncData
  a_Line_do : Addr
  fd_Line_do : FuncData
  a_Line_go : Addr
  fd_Line_go : FuncData
  a_Line_copied : Addr
  fd_Line_copied : FuncData
  c_Script : Addr
  p_Script_files : Addr
  c_Line : Addr
  d_PARTS : Addr
  es_PARTS : Array DictEntry
  n_PARTS : Nat
  d_UNDOING : Addr
  es_UNDOING : Array DictEntry
  n_UNDOING : Nat
  d_ACTIONS : Addr
  es_ACTIONS : Array DictEntry
  n_ACTIONS : Nat
structure Txt (K : PySem.W.Frag) (w : World) (mg : Str → Option Value) (a : Ad) : Prop where
  m_is_integer : mg "is_integer" = some (.ref a.a_is_integer)
  F_is_integer : Fun K "is_integer" "is_integer" s_is_integer a.a_is_integer a.fd_is_integer
  k_is_integer : PySem.W.keepIn K (.ref a.a_is_integer) = true
  b_is_integer : Binds K a.fd_is_integer ["thing"] []
  m_is_files : mg "is_files" = some (.ref a.a_is_files)
  F_is_files : Fun K "is_files" "is_files" s_is_files a.a_is_files a.fd_is_files
  k_is_files : PySem.W.keepIn K (.ref a.a_is_files) = true
  b_is_files : Binds K a.fd_is_files ["thing"] []
  m_is_rows : mg "is_rows" = some (.ref a.a_is_rows)
  F_is_rows : Fun K "is_rows" "is_rows" s_is_rows a.a_is_rows a.fd_is_rows
  k_is_rows : PySem.W.keepIn K (.ref a.a_is_rows) = true
  b_is_rows : Binds K a.fd_is_rows ["thing"] []
  m_is_index : mg "is_index" = some (.ref a.a_is_index)
  F_is_index : Fun K "is_index" "is_index" s_is_index a.a_is_index a.fd_is_index
  k_is_index : PySem.W.keepIn K (.ref a.a_is_index) = true
  b_is_index : Binds K a.fd_is_index ["thing", "many"] []
  m_is_part : mg "is_part" = some (.ref a.a_is_part)
  F_is_part : Fun K "is_part" "is_part" s_is_part a.a_is_part a.fd_is_part
  k_is_part : PySem.W.keepIn K (.ref a.a_is_part) = true
  b_is_part : Binds K a.fd_is_part ["files", "part", "item"] []
  m_is_call : mg "is_call" = some (.ref a.a_is_call)
  F_is_call : Fun K "is_call" "is_call" s_is_call a.a_is_call a.fd_is_call
  k_is_call : PySem.W.keepIn K (.ref a.a_is_call) = true
  b_is_call : Binds K a.fd_is_call ["files", "thing"] []
  m_is_straight : mg "is_straight" = some (.ref a.a_is_straight)
  F_is_straight : Fun K "is_straight" "is_straight" s_is_straight a.a_is_straight a.fd_is_straight
  k_is_straight : PySem.W.keepIn K (.ref a.a_is_straight) = true
  b_is_straight : Binds K a.fd_is_straight ["call"] []
  m_turned : mg "turned" = some (.ref a.a_turned)
  F_turned : Fun K "turned" "turned" s_turned a.a_turned a.fd_turned
  k_turned : PySem.W.keepIn K (.ref a.a_turned) = true
  b_turned : Binds K a.fd_turned ["call"] []
  m_files_of : mg "files_of" = some (.ref a.a_files_of)
  F_files_of : Fun K "files_of" "files_of" s_files_of a.a_files_of a.fd_files_of
  k_files_of : PySem.W.keepIn K (.ref a.a_files_of) = true
  b_files_of : Binds K a.fd_files_of ["call"] []
  m_moved_by : mg "moved_by" = some (.ref a.a_moved_by)
  F_moved_by : Fun K "moved_by" "moved_by" s_moved_by a.a_moved_by a.fd_moved_by
  k_moved_by : PySem.W.keepIn K (.ref a.a_moved_by) = true
  b_moved_by : Binds K a.fd_moved_by ["call", "files", "rows", "place"] []
  m_cut_of : mg "cut_of" = some (.ref a.a_cut_of)
  F_cut_of : Fun K "cut_of" "cut_of" s_cut_of a.a_cut_of a.fd_cut_of
  k_cut_of : PySem.W.keepIn K (.ref a.a_cut_of) = true
  b_cut_of : Binds K a.fd_cut_of ["call", "files", "rows", "file"] []
  m_whole : mg "whole" = some (.ref a.a_whole)
  F_whole : Fun K "whole" "whole" s_whole a.a_whole a.fd_whole
  k_whole : PySem.W.keepIn K (.ref a.a_whole) = true
  b_whole : Binds K a.fd_whole ["way"] []
  m_cut_of_up : mg "cut_of_up" = some (.ref a.a_cut_of_up)
  F_cut_of_up : Fun K "cut_of_up" "cut_of_up" s_cut_of_up a.a_cut_of_up a.fd_cut_of_up
  k_cut_of_up : PySem.W.keepIn K (.ref a.a_cut_of_up) = true
  b_cut_of_up : Binds K a.fd_cut_of_up ["k", "rows", "file"] []
  m_cut_of_wheel : mg "cut_of_wheel" = some (.ref a.a_cut_of_wheel)
  F_cut_of_wheel : Fun K "cut_of_wheel" "cut_of_wheel" s_cut_of_wheel a.a_cut_of_wheel a.fd_cut_of_wheel
  k_cut_of_wheel : PySem.W.keepIn K (.ref a.a_cut_of_wheel) = true
  b_cut_of_wheel : Binds K a.fd_cut_of_wheel ["call", "rows", "file"] []
  m_moved_by_open_call : mg "moved_by_open_call" = some (.ref a.a_moved_by_open_call)
  F_moved_by_open_call : Fun K "moved_by_open_call" "moved_by_open_call" s_moved_by_open_call a.a_moved_by_open_call a.fd_moved_by_open_call
  k_moved_by_open_call : PySem.W.keepIn K (.ref a.a_moved_by_open_call) = true
  b_moved_by_open_call : Binds K a.fd_moved_by_open_call ["word", "files", "rows", "place"] []
  m_is_place : mg "is_place" = some (.ref a.a_is_place)
  F_is_place : Fun K "is_place" "is_place" s_is_place a.a_is_place a.fd_is_place
  k_is_place : PySem.W.keepIn K (.ref a.a_is_place) = true
  b_is_place : Binds K a.fd_is_place ["files", "rows", "thing"] []
  m_number_of : mg "number_of" = some (.ref a.a_number_of)
  F_number_of : Fun K "number_of" "number_of" s_number_of a.a_number_of a.fd_number_of
  k_number_of : PySem.W.keepIn K (.ref a.a_number_of) = true
  b_number_of : Binds K a.fd_number_of ["files", "place"] []
  m_place_of : mg "place_of" = some (.ref a.a_place_of)
  F_place_of : Fun K "place_of" "place_of" s_place_of a.a_place_of a.fd_place_of
  k_place_of : PySem.W.keepIn K (.ref a.a_place_of) = true
  b_place_of : Binds K a.fd_place_of ["files", "number"] []
  m_moved : mg "moved" = some (.ref a.a_moved)
  F_moved : Fun K "moved" "moved" s_moved a.a_moved a.fd_moved
  k_moved : PySem.W.keepIn K (.ref a.a_moved) = true
  b_moved : Binds K a.fd_moved ["script", "rows", "place"] []
  m_passed : mg "passed" = some (.ref a.a_passed)
  F_passed : Fun K "passed" "passed" s_passed a.a_passed a.fd_passed
  k_passed : PySem.W.keepIn K (.ref a.a_passed) = true
  b_passed : Binds K a.fd_passed ["script", "rows", "place"] []
  m_behind_all : mg "behind_all" = some (.ref a.a_behind_all)
  F_behind_all : Fun K "behind_all" "behind_all" s_behind_all a.a_behind_all a.fd_behind_all
  k_behind_all : PySem.W.keepIn K (.ref a.a_behind_all) = true
  b_behind_all : Binds K a.fd_behind_all ["columns", "call"] []
  m_behind_up : mg "behind_up" = some (.ref a.a_behind_up)
  F_behind_up : Fun K "behind_up" "behind_up" s_behind_up a.a_behind_up a.fd_behind_up
  k_behind_up : PySem.W.keepIn K (.ref a.a_behind_up) = true
  b_behind_up : Binds K a.fd_behind_up ["columns", "call"] []
  m_behind_swap : mg "behind_swap" = some (.ref a.a_behind_swap)
  F_behind_swap : Fun K "behind_swap" "behind_swap" s_behind_swap a.a_behind_swap a.fd_behind_swap
  k_behind_swap : PySem.W.keepIn K (.ref a.a_behind_swap) = true
  b_behind_swap : Binds K a.fd_behind_swap ["columns", "call"] []
  m_behind_wheel : mg "behind_wheel" = some (.ref a.a_behind_wheel)
  F_behind_wheel : Fun K "behind_wheel" "behind_wheel" s_behind_wheel a.a_behind_wheel a.fd_behind_wheel
  k_behind_wheel : PySem.W.keepIn K (.ref a.a_behind_wheel) = true
  b_behind_wheel : Binds K a.fd_behind_wheel ["columns", "call"] []
  m_behind_about : mg "behind_about" = some (.ref a.a_behind_about)
  F_behind_about : Fun K "behind_about" "behind_about" s_behind_about a.a_behind_about a.fd_behind_about
  k_behind_about : PySem.W.keepIn K (.ref a.a_behind_about) = true
  b_behind_about : Binds K a.fd_behind_about ["columns", "call"] []
  m_behind_front : mg "behind_front" = some (.ref a.a_behind_front)
  F_behind_front : Fun K "behind_front" "behind_front" s_behind_front a.a_behind_front a.fd_behind_front
  k_behind_front : PySem.W.keepIn K (.ref a.a_behind_front) = true
  b_behind_front : Binds K a.fd_behind_front ["columns", "call"] []
  m_behind_halve : mg "behind_halve" = some (.ref a.a_behind_halve)
  F_behind_halve : Fun K "behind_halve" "behind_halve" s_behind_halve a.a_behind_halve a.fd_behind_halve
  k_behind_halve : PySem.W.keepIn K (.ref a.a_behind_halve) = true
  b_behind_halve : Binds K a.fd_behind_halve ["columns", "call"] []
  m_behind_pair : mg "behind_pair" = some (.ref a.a_behind_pair)
  F_behind_pair : Fun K "behind_pair" "behind_pair" s_behind_pair a.a_behind_pair a.fd_behind_pair
  k_behind_pair : PySem.W.keepIn K (.ref a.a_behind_pair) = true
  b_behind_pair : Binds K a.fd_behind_pair ["columns", "call"] []
  m_behind_others : mg "behind_others" = some (.ref a.a_behind_others)
  F_behind_others : Fun K "behind_others" "behind_others" s_behind_others a.a_behind_others a.fd_behind_others
  k_behind_others : PySem.W.keepIn K (.ref a.a_behind_others) = true
  b_behind_others : Binds K a.fd_behind_others ["columns", "call"] []
  m_behind_fill : mg "behind_fill" = some (.ref a.a_behind_fill)
  F_behind_fill : Fun K "behind_fill" "behind_fill" s_behind_fill a.a_behind_fill a.fd_behind_fill
  k_behind_fill : PySem.W.keepIn K (.ref a.a_behind_fill) = true
  b_behind_fill : Binds K a.fd_behind_fill ["columns", "call"] []
  m_columns_led : mg "columns_led" = some (.ref a.a_columns_led)
  F_columns_led : Fun K "columns_led" "columns_led" s_columns_led a.a_columns_led a.fd_columns_led
  k_columns_led : PySem.W.keepIn K (.ref a.a_columns_led) = true
  b_columns_led : Binds K a.fd_columns_led ["columns", "calls"] []
  m_columns_of : mg "columns_of" = some (.ref a.a_columns_of)
  F_columns_of : Fun K "columns_of" "columns_of" s_columns_of a.a_columns_of a.fd_columns_of
  k_columns_of : PySem.W.keepIn K (.ref a.a_columns_of) = true
  b_columns_of : Binds K a.fd_columns_of ["order", "files"] []
  m_order_of : mg "order_of" = some (.ref a.a_order_of)
  F_order_of : Fun K "order_of" "order_of" s_order_of a.a_order_of a.fd_order_of
  k_order_of : PySem.W.keepIn K (.ref a.a_order_of) = true
  b_order_of : Binds K a.fd_order_of ["columns"] []
  m_first_columns : mg "first_columns" = some (.ref a.a_first_columns)
  F_first_columns : Fun K "first_columns" "first_columns" s_first_columns a.a_first_columns a.fd_first_columns
  k_first_columns : PySem.W.keepIn K (.ref a.a_first_columns) = true
  b_first_columns : Binds K a.fd_first_columns ["files", "rows"] []
  m_order_behind : mg "order_behind" = some (.ref a.a_order_behind)
  F_order_behind : Fun K "order_behind" "order_behind" s_order_behind a.a_order_behind a.fd_order_behind
  k_order_behind : PySem.W.keepIn K (.ref a.a_order_behind) = true
  b_order_behind : Binds K a.fd_order_behind ["script", "rows"] []
  m_moves_of : mg "moves_of" = some (.ref a.a_moves_of)
  F_moves_of : Fun K "moves_of" "moves_of" s_moves_of a.a_moves_of a.fd_moves_of
  k_moves_of : PySem.W.keepIn K (.ref a.a_moves_of) = true
  b_moves_of : Binds K a.fd_moves_of ["script", "rows"] []
  m_followed : mg "followed" = some (.ref a.a_followed)
  F_followed : Fun K "followed" "followed" s_followed a.a_followed a.fd_followed
  k_followed : PySem.W.keepIn K (.ref a.a_followed) = true
  b_followed : Binds K a.fd_followed ["one", "other"] []
  m_repeated : mg "repeated" = some (.ref a.a_repeated)
  F_repeated : Fun K "repeated" "repeated" s_repeated a.a_repeated a.fd_repeated
  k_repeated : PySem.W.keepIn K (.ref a.a_repeated) = true
  b_repeated : Binds K a.fd_repeated ["moves", "many"] []
  m_rearranged : mg "rearranged" = some (.ref a.a_rearranged)
  F_rearranged : Fun K "rearranged" "rearranged" s_rearranged a.a_rearranged a.fd_rearranged
  k_rearranged : PySem.W.keepIn K (.ref a.a_rearranged) = true
  b_rearranged : Binds K a.fd_rearranged ["pupils", "moves"] []
  m_Lbag : mg "_law_bag" = some (.ref a.a_Lbag)
  F_Lbag : Fun K "_law_bag" "_law_bag" s_Lbag a.a_Lbag a.fd_Lbag
  k_Lbag : PySem.W.keepIn K (.ref a.a_Lbag) = true
  b_Lbag : Binds K a.fd_Lbag ["_law_script"] []
  m_Ltake : mg "_law_take" = some (.ref a.a_Ltake)
  F_Ltake : Fun K "_law_take" "_law_take" s_Ltake a.a_Ltake a.fd_Ltake
  k_Ltake : PySem.W.keepIn K (.ref a.a_Ltake) = true
  b_Ltake : Binds K a.fd_Ltake ["_law_bag_here", "_law_many"] []
  m_Lone : mg "_law_one" = some (.ref a.a_Lone)
  F_Lone : Fun K "_law_one" "_law_one" s_Lone a.a_Lone a.fd_Lone
  k_Lone : PySem.W.keepIn K (.ref a.a_Lone) = true
  b_Lone : Binds K a.fd_Lone ["_law_bag_here", "_law_some"] []
  m_Lmixed : mg "_law_mixed" = some (.ref a.a_Lmixed)
  F_Lmixed : Fun K "_law_mixed" "_law_mixed" s_Lmixed a.a_Lmixed a.fd_Lmixed
  k_Lmixed : PySem.W.keepIn K (.ref a.a_Lmixed) = true
  b_Lmixed : Binds K a.fd_Lmixed ["_law_bag_here", "_law_things"] []
  m_Lnumber : mg "_law_number" = some (.ref a.a_Lnumber)
  F_Lnumber : Fun K "_law_number" "_law_number" s_Lnumber a.a_Lnumber a.fd_Lnumber
  k_Lnumber : PySem.W.keepIn K (.ref a.a_Lnumber) = true
  b_Lnumber : Binds K a.fd_Lnumber ["_law_bag_here", "_law_most"] []
  m_Ltwo : mg "_law_two" = some (.ref a.a_Ltwo)
  F_Ltwo : Fun K "_law_two" "_law_two" s_Ltwo a.a_Ltwo a.fd_Ltwo
  k_Ltwo : PySem.W.keepIn K (.ref a.a_Ltwo) = true
  b_Ltwo : Binds K a.fd_Ltwo ["_law_bag_here", "_law_files"] []
  m_Lcall : mg "_law_call" = some (.ref a.a_Lcall)
  F_Lcall : Fun K "_law_call" "_law_call" s_Lcall a.a_Lcall a.fd_Lcall
  k_Lcall : PySem.W.keepIn K (.ref a.a_Lcall) = true
  b_Lcall : Binds K a.fd_Lcall ["_law_bag_here", "_law_files", "_law_kinds", "_law_most"] []
  m_Lall_kinds : mg "_law_all_kinds" = some (.ref a.a_Lall_kinds)
  F_Lall_kinds : Fun K "_law_all_kinds" "_law_all_kinds" s_Lall_kinds a.a_Lall_kinds a.fd_Lall_kinds
  k_Lall_kinds : PySem.W.keepIn K (.ref a.a_Lall_kinds) = true
  b_Lall_kinds : Binds K a.fd_Lall_kinds [] []
  m_Lcalls : mg "_law_calls" = some (.ref a.a_Lcalls)
  F_Lcalls : Fun K "_law_calls" "_law_calls" s_Lcalls a.a_Lcalls a.fd_Lcalls
  k_Lcalls : PySem.W.keepIn K (.ref a.a_Lcalls) = true
  b_Lcalls : Binds K a.fd_Lcalls ["_law_bag_here", "_law_files", "_law_kinds", "_law_many"] []
  m_Lbegun : mg "_law_begun" = some (.ref a.a_Lbegun)
  F_Lbegun : Fun K "_law_begun" "_law_begun" s_Lbegun a.a_Lbegun a.fd_Lbegun
  k_Lbegun : PySem.W.keepIn K (.ref a.a_Lbegun) = true
  b_Lbegun : Binds K a.fd_Lbegun ["_law_bag_here", "_law_files", "_law_rows"] []
  m_Lbehind : mg "_law_behind" = some (.ref a.a_Lbehind)
  F_Lbehind : Fun K "_law_behind" "_law_behind" s_Lbehind a.a_Lbehind a.fd_Lbehind
  k_Lbehind : PySem.W.keepIn K (.ref a.a_Lbehind) = true
  b_Lbehind : Binds K a.fd_Lbehind ["_law_line", "_law_some", "_law_rounds"] []
  m_Lplaces_right : mg "_law_places_right" = some (.ref a.a_Lplaces_right)
  F_Lplaces_right : Fun K "_law_places_right" "_law_places_right" s_Lplaces_right a.a_Lplaces_right a.fd_Lplaces_right
  k_Lplaces_right : PySem.W.keepIn K (.ref a.a_Lplaces_right) = true
  b_Lplaces_right : Binds K a.fd_Lplaces_right ["_law_bag_here", "_law_one_here", "_law_other", "_law_files", "_law_rows"] []
  m_law : mg "law" = some (.ref a.a_law)
  F_law : Fun K "law" "law" s_law a.a_law a.fd_law
  k_law : PySem.W.keepIn K (.ref a.a_law) = true
  b_law : Binds K a.fd_law ["_law_script"] []
  F_Script_init : Fun K "__init__" "Script.__init__" s_Script_init a.a_Script_init a.fd_Script_init
  k_Script_init : PySem.W.keepIn K (.ref a.a_Script_init) = true
  b_Script_init : Binds K a.fd_Script_init ["self", "files", "calls"] []
  F_Script_len : Fun K "__len__" "Script.__len__" s_Script_len a.a_Script_len a.fd_Script_len
  k_Script_len : PySem.W.keepIn K (.ref a.a_Script_len) = true
  b_Script_len : Binds K a.fd_Script_len ["self"] []
  F_Script_iter : Fun K "__iter__" "Script.__iter__" s_Script_iter a.a_Script_iter a.fd_Script_iter
  k_Script_iter : PySem.W.keepIn K (.ref a.a_Script_iter) = true
  b_Script_iter : Binds K a.fd_Script_iter ["self"] []
  F_Script_mul : Fun K "__mul__" "Script.__mul__" s_Script_mul a.a_Script_mul a.fd_Script_mul
  k_Script_mul : PySem.W.keepIn K (.ref a.a_Script_mul) = true
  b_Script_mul : Binds K a.fd_Script_mul ["self", "other"] []
  F_Script_invert : Fun K "__invert__" "Script.__invert__" s_Script_invert a.a_Script_invert a.fd_Script_invert
  k_Script_invert : PySem.W.keepIn K (.ref a.a_Script_invert) = true
  b_Script_invert : Binds K a.fd_Script_invert ["self"] []
  F_Script_files : Fun K "files" "Script.files" s_Script_files a.a_Script_files a.fd_Script_files
  k_Script_files : PySem.W.keepIn K (.ref a.a_Script_files) = true
  b_Script_files : Binds K a.fd_Script_files ["self"] []
  F_Script_calls : Fun K "calls" "Script.calls" s_Script_calls a.a_Script_calls a.fd_Script_calls
  k_Script_calls : PySem.W.keepIn K (.ref a.a_Script_calls) = true
  b_Script_calls : Binds K a.fd_Script_calls ["self"] []
  F_Script_times : Fun K "times" "Script.times" s_Script_times a.a_Script_times a.fd_Script_times
  k_Script_times : PySem.W.keepIn K (.ref a.a_Script_times) = true
  b_Script_times : Binds K a.fd_Script_times ["self", "k"] []
  F_Line_init : Fun K "__init__" "Line.__init__" s_Line_init a.a_Line_init a.fd_Line_init
  k_Line_init : PySem.W.keepIn K (.ref a.a_Line_init) = true
  b_Line_init : Binds K a.fd_Line_init ["self", "files", "rows"] []
  F_Line_eq : Fun K "__eq__" "Line.__eq__" s_Line_eq a.a_Line_eq a.fd_Line_eq
  k_Line_eq : PySem.W.keepIn K (.ref a.a_Line_eq) = true
  b_Line_eq : Binds K a.fd_Line_eq ["self", "other"] []
  F_Line_order : Fun K "order" "Line.order" s_Line_order a.a_Line_order a.fd_Line_order
  k_Line_order : PySem.W.keepIn K (.ref a.a_Line_order) = true
  b_Line_order : Binds K a.fd_Line_order ["self"] []
  F_Line_do : Fun K "do" "Line.do" s_Line_do a.a_Line_do a.fd_Line_do
  k_Line_do : PySem.W.keepIn K (.ref a.a_Line_do) = true
  b_Line_do : Binds K a.fd_Line_do ["self", "thing"] []
  F_Line_go : Fun K "go" "Line.go" s_Line_go a.a_Line_go a.fd_Line_go
  k_Line_go : PySem.W.keepIn K (.ref a.a_Line_go) = true
  b_Line_go : Binds K a.fd_Line_go ["self", "script", "rounds"] []
  F_Line_copied : Fun K "copied" "Line.copied" s_Line_copied a.a_Line_copied a.fd_Line_copied
  k_Line_copied : PySem.W.keepIn K (.ref a.a_Line_copied) = true
  b_Line_copied : Binds K a.fd_Line_copied ["self"] []
  g_MOST_ROWS : ∃ t, mg "MOST_ROWS" = some (.int 400 t)
  m_Script : mg "Script" = some (.ref a.c_Script)
  t_Script : ClsT K a.c_Script
  X_Script : Ow.ClsX K a.c_Script
  Y_Script : PySem.W.selfFirst K a.c_Script = true
  Q_Script_len : Meth K a.c_Script "__len__" a.a_Script_len
  Q_Script_iter : Meth K a.c_Script "__iter__" a.a_Script_iter
  Q_Script_mul : Meth K a.c_Script "__mul__" a.a_Script_mul
  Q_Script_invert : Meth K a.c_Script "__invert__" a.a_Script_invert
  Q_Script_calls : Meth K a.c_Script "calls" a.a_Script_calls
  Q_Script_times : Meth K a.c_Script "times" a.a_Script_times
  P_Script_files : PropOf K a.c_Script "files" a.p_Script_files a.a_Script_files
  M_Script : Mk K a.c_Script a.a_Script_init
  A_Script_width : NoAttr K a.c_Script "width"
  A_Script_held : NoAttr K a.c_Script "held"
  m_Line : mg "Line" = some (.ref a.c_Line)
  t_Line : ClsT K a.c_Line
  X_Line : Ow.ClsX K a.c_Line
  Q_Line_eq : Meth K a.c_Line "__eq__" a.a_Line_eq
  Q_Line_order : Meth K a.c_Line "order" a.a_Line_order
  Q_Line_do : Meth K a.c_Line "do" a.a_Line_do
  Q_Line_go : Meth K a.c_Line "go" a.a_Line_go
  Q_Line_copied : Meth K a.c_Line "copied" a.a_Line_copied
  M_Line : Mk K a.c_Line a.a_Line_init
  A_Line_width : NoAttr K a.c_Line "width"
  A_Line_depth : NoAttr K a.c_Line "depth"
  A_Line_standing : NoAttr K a.c_Line "standing"
  g_PARTS : mg "PARTS" = some (.ref a.d_PARTS)
  d_PARTS : KDict K w a.d_PARTS a.es_PARTS a.n_PARTS
  v_PARTS_all : ∃ t, PySem.W.nsIn K a.d_PARTS "all" = some (some (.str "k" t))
  v_PARTS_up : ∃ t, PySem.W.nsIn K a.d_PARTS "up" = some (some (.str "fk" t))
  v_PARTS_swap : ∃ t, PySem.W.nsIn K a.d_PARTS "swap" = some (some (.str "ff" t))
  v_PARTS_wheel : ∃ t, PySem.W.nsIn K a.d_PARTS "wheel" = some (some (.str "ffk" t))
  v_PARTS_about : ∃ t, PySem.W.nsIn K a.d_PARTS "about" = some (some (.str "" t))
  v_PARTS_front : ∃ t, PySem.W.nsIn K a.d_PARTS "front" = some (some (.str "ff" t))
  v_PARTS_halve : ∃ t, PySem.W.nsIn K a.d_PARTS "halve" = some (some (.str "" t))
  v_PARTS_pair : ∃ t, PySem.W.nsIn K a.d_PARTS "pair" = some (some (.str "" t))
  v_PARTS_others : ∃ t, PySem.W.nsIn K a.d_PARTS "others" = some (some (.str "" t))
  v_PARTS_fill : ∃ t, PySem.W.nsIn K a.d_PARTS "fill" = some (some (.str "" t))
  g_UNDOING : mg "UNDOING" = some (.ref a.d_UNDOING)
  d_UNDOING : KDict K w a.d_UNDOING a.es_UNDOING a.n_UNDOING
  v_UNDOING_halve : ∃ t, PySem.W.nsIn K a.d_UNDOING "halve" = some (some (.str "pair" t))
  v_UNDOING_pair : ∃ t, PySem.W.nsIn K a.d_UNDOING "pair" = some (some (.str "halve" t))
  v_UNDOING_others : ∃ t, PySem.W.nsIn K a.d_UNDOING "others" = some (some (.str "fill" t))
  v_UNDOING_fill : ∃ t, PySem.W.nsIn K a.d_UNDOING "fill" = some (some (.str "others" t))
  o_UNDOING_all : PySem.W.nsIn K a.d_UNDOING "all" = some none
  o_UNDOING_up : PySem.W.nsIn K a.d_UNDOING "up" = some none
  o_UNDOING_swap : PySem.W.nsIn K a.d_UNDOING "swap" = some none
  o_UNDOING_wheel : PySem.W.nsIn K a.d_UNDOING "wheel" = some none
  o_UNDOING_about : PySem.W.nsIn K a.d_UNDOING "about" = some none
  o_UNDOING_front : PySem.W.nsIn K a.d_UNDOING "front" = some none
  g_ACTIONS : mg "ACTIONS" = some (.ref a.d_ACTIONS)
  d_ACTIONS : KDict K w a.d_ACTIONS a.es_ACTIONS a.n_ACTIONS
  v_ACTIONS_all : PySem.W.nsIn K a.d_ACTIONS "all" = some (some (.ref a.a_behind_all))
  v_ACTIONS_up : PySem.W.nsIn K a.d_ACTIONS "up" = some (some (.ref a.a_behind_up))
  v_ACTIONS_swap : PySem.W.nsIn K a.d_ACTIONS "swap" = some (some (.ref a.a_behind_swap))
  v_ACTIONS_wheel : PySem.W.nsIn K a.d_ACTIONS "wheel" = some (some (.ref a.a_behind_wheel))
  v_ACTIONS_about : PySem.W.nsIn K a.d_ACTIONS "about" = some (some (.ref a.a_behind_about))
  v_ACTIONS_front : PySem.W.nsIn K a.d_ACTIONS "front" = some (some (.ref a.a_behind_front))
  v_ACTIONS_halve : PySem.W.nsIn K a.d_ACTIONS "halve" = some (some (.ref a.a_behind_halve))
  v_ACTIONS_pair : PySem.W.nsIn K a.d_ACTIONS "pair" = some (some (.ref a.a_behind_pair))
  v_ACTIONS_others : PySem.W.nsIn K a.d_ACTIONS "others" = some (some (.ref a.a_behind_others))
  v_ACTIONS_fill : PySem.W.nsIn K a.d_ACTIONS "fill" = some (some (.ref a.a_behind_fill))
  n_len : mg "len" = none
  n_abs : mg "abs" = none
  n_int : mg "int" = none
  n_sorted : mg "sorted" = none
  n_list : mg "list" = none
  n_tuple : mg "tuple" = none
  n_range : mg "range" = none
  n_zip : mg "zip" = none
  n_all : mg "all" = none
  n_set : mg "set" = none
  n_isinstance : mg "isinstance" = none
  n_str : mg "str" = none
  n_bool : mg "bool" = none
  n_reversed : mg "reversed" = none
  n_iter : mg "iter" = none
  n_ValueError : mg "ValueError" = none
/-- a call -/
inductive C where
  | all (k : Int) | up (f k : Int) | swap (f g : Int) | wheel (f g k : Int) | about | front (f g : Int) | halve | pair | others | fill
def C.vals : C → List V
  | .all k => [.str "all", .int k]
  | .up f k => [.str "up", .int f, .int k]
  | .swap f g => [.str "swap", .int f, .int g]
  | .wheel f g k => [.str "wheel", .int f, .int g, .int k]
  | .about => [.str "about"]
  | .front f g => [.str "front", .int f, .int g]
  | .halve => [.str "halve"]
  | .pair => [.str "pair"]
  | .others => [.str "others"]
  | .fill => [.str "fill"]
def C.straight : C → Bool
  | .halve => false | .pair => false | .others => false | .fill => false | _ => true
def C.turned : C → C
  | .all k => .all (-k) | .up f k => .up f (-k) | .wheel f g k => .wheel f g (-k)
  | .halve => .pair | .pair => .halve | .others => .fill | .fill => .others | q => q
def C.named : C → List Int
  | .up f _ => [f] | .swap f g => [f, g] | .wheel f g _ => [f, g] | .front f g => [f, g] | _ => []
end My

set_option Elab.async false
set_option linter.all false
set_option maxRecDepth 100000
set_option maxHeartbeats 8000000
namespace My
open PySem PySem.Spec PyProof.Rows L2 Sx
local macro_rules | `(tactic| walk_at "nb") => `(tactic| first | exact NB.tup | exact NB.ints | exact NB.len (of_decide_eq_true rfl) | exact NB.at0b rfl | exact NB.at3b rfl | exact NB.ins | exact NB.own | exact NB.frz | exact NB.refs (by assumption) | assumption)
local macro_rules | `(tactic| walk_at "ne") => `(tactic| first | assumption | exact Ne.symm (by assumption) | exact ne_of_none (by assumption) (by assumption) | exact Ne.symm (ne_of_none (by assumption) (by assumption)))
local macro_rules | `(tactic| walk_at "hk") => `(tactic| first
  | assumption
  | exact upd_same
  | (refine' (upd_ne ?hkne).trans ?hkq; (case hkne => walk_at "ne"); (case hkq => walk_at "hk"))
  | (refine' Ex.kp (by assumption) _ _ ?hkq ?hkn; (case hkq => walk_at "hk"); (case hkn => walk_at "nb")))
local macro_rules | `(tactic| walk_at "rd1") => `(tactic| first
  | ((with_reducible refine' x_var ?hx ?_); (case hx => exact rfl))
  | with_reducible refine x_c ?_
  | with_reducible refine x_op ?_
  | with_reducible refine x_un ?_
  | with_reducible refine x_I0 ?_
  | with_reducible refine x_U ?_
  | ((with_reducible refine x_I ?hc ?_); (case hc => first | exact (by decide : (0 : Int) < _) | (show (0 : Int) < _; omega) | (show CMul _ _; first | exact .inl ⟨by omega, by omega⟩ | exact .inr ⟨by omega, by omega⟩) | (show CDiv _ _; exact ⟨by omega, by omega⟩) | (show CDivW _ _; exact wide_div (b := 200) (by omega) (by assumption) (by decide) (by decide)) | (show CDivW _ _; exact wide_div (b := 31) (by omega) (by omega) (by decide) (by decide))))
  | with_reducible refine x_EqI ?_
  | with_reducible refine x_NeI ?_
  | ((with_reducible refine x_EqSt ?h ?_); (case h => decide +kernel))
  | ((with_reducible refine x_EqSf ?h ?_); (case h => decide +kernel))
  | ((with_reducible refine x_NeSt ?h ?_); (case h => decide +kernel))
  | ((with_reducible refine x_NeSf ?h ?_); (case h => decide +kernel))
  | with_reducible refine x_EqS ?_
  | with_reducible refine x_NeS ?_
  | ((with_reducible refine' x_ixL ?hq ?hi ?_); (case hq => walk_at "hk"); (case hi => first | exact rfl | assumption))
  | ((with_reducible refine' x_ixT ?hq ?hi ?_); (case hq => walk_at "hk"); (case hi => first | exact rfl | assumption))
  | with_reducible refine x_chain ?_
  | with_reducible refine x_tup ?_
  | with_reducible refine x_lst ?_
  | ((with_reducible refine x_lenNew ?hl ?_); (case hl => exact Nat.le_of_ble_eq_true rfl); intro _ _ _ _ _)
  | ((with_reducible refine x_new ?_); intro _ _ _ _ _)
  | with_reducible refine x_sl ?_
  | with_reducible refine x_noPart ?_
  | with_reducible refine x_part ?_
  | with_reducible refine x_ex_int ?_
  | with_reducible refine x_ex_bl ?_
  | with_reducible refine x_ex_2 ?_
  | with_reducible refine x_test ?_
  | with_reducible refine x_B ?_
  | with_reducible refine x_and ?_
  | with_reducible refine x_or ?_
  | with_reducible refine x_not ?_
  | with_reducible refine x_andV ?_
  | with_reducible refine x_orV ?_
  | with_reducible refine x_notV ?_
  | with_reducible refine x_ifE ?_
  | with_reducible refine x_iteT ?_
  | with_reducible refine x_iteF ?_
  | ((with_reducible refine x_iteD ?_ ?_) <;> intro _)
  | ((with_reducible refine x_iteN ?_ ?_) <;> intro _)
  | with_reducible refine x_if ?_
  | with_reducible refine x_seq ?_
  | with_reducible refine x_next ?_
  | with_reducible refine x_asg ?_
  | with_reducible refine x_gName ?_
  | ((with_reducible refine' x_gTup ?hq ?hn ?_); (case hq => walk_at "hk"); (case hn => exact rfl))
  | with_reducible refine x_gCons ?_
  | with_reducible refine x_gNil ?_
  | ((with_reducible refine' x_gConsE ?h ?_); (case h => exact rfl))
  | ((with_reducible refine x_gNilE ?h ?_); (case h => exact rfl))
  | with_reducible refine x_ret ?_
  | with_reducible refine x_drop ?_
  | with_reducible refine x_par ?_
  | ((with_reducible refine' x_aug ?hx ?_); (case hx => exact rfl))
  | with_reducible refine x_ipI ?_
  | with_reducible refine x_augS ?_
  | with_reducible refine x_gSub ?_
  | ((with_reducible refine' x_setL ?hq ?hi ?_); (case hq => walk_at "hk"); (case hi => first | exact rfl | assumption))
  | with_reducible refine x_cons ?_
  | with_reducible refine x_nil ?_
  | with_reducible refine x_CB ?_
  | with_reducible refine x_abs ?_
  | with_reducible refine x_intI ?_
  | with_reducible refine x_intB ?_
  | ((with_reducible refine' x_lenL ?hq ?_); (case hq => walk_at "hk"))
  | ((with_reducible refine' x_lenT ?hq ?_); (case hq => walk_at "hk"))
  | ((with_reducible refine x_iteTe ?h ?_); (case h => exact rfl))
  | ((with_reducible refine x_iteFe ?h ?_); (case h => exact rfl))
  | walk_at "use"
  | with_reducible refine x_callS ?_
  | ((with_reducible refine x_lc ?_))
  | ((with_reducible refine x_for ?_))
  | ((with_reducible refine x_iR1 ?_))
  | ((with_reducible refine x_iL ?_))
  | ((with_reducible refine x_iZ ?_))
  | ((with_reducible refine x_yes ?_))
  | ((with_reducible refine' x_NIDt ?hq ?_); (case hq => assumption))
  | ((with_reducible refine' x_NIDf ?hq ?_); (case hq => assumption))
  | ((with_reducible refine' x_IIDf ?hq ?_); (case hq => assumption))
  | ((with_reducible refine' x_IIDt ?hq ?_); (case hq => assumption))
  | ((with_reducible refine' x_ixDs ?hd ?hq ?_); (case hd => assumption); (case hq => assumption))
  | ((with_reducible refine x_InSt ?h ?_); (case h => decide +kernel))
  | ((with_reducible refine x_InSf ?h ?_); (case h => decide +kernel))
  | ((with_reducible refine' x_notInI ?hq ?_); (case hq => walk_at "hk"))
  | ((with_reducible refine' x_inTt ?hq ?hv ?ha ?he ?_); (case hq => walk_at "hk"); (case hv => exact rfl); (case ha => exact rfl); (case he => decide +kernel))
  | ((with_reducible refine' x_inTf ?hq ?hv ?ha ?he ?_); (case hq => walk_at "hk"); (case hv => exact rfl); (case ha => exact rfl); (case he => decide +kernel))
  | ((with_reducible refine' x_slT ?hq ?hw ?_); (case hq => walk_at "hk"); (case hw => with_unfolding_all exact of_decide_eq_true rfl))
  | ((with_reducible refine' x_slL ?hq ?_); (case hq => walk_at "hk"))
  | ((with_reducible refine' x_catT ?hq ?hr ?n1 ?n2 ?hl ?_); (case hq => walk_at "hk"); (case hr => walk_at "hk"); (case n1 => exact List.cons_ne_nil _ _); (case n2 => exact List.cons_ne_nil _ _); (case hl => exact Nat.le_of_ble_eq_true rfl))
  | ((with_reducible refine x_bm ?_))
  | ((with_reducible refine x_lstRg ?_))
  | ((with_reducible refine x_rg1 ?_))
  | ((with_reducible refine And.intro ?h ?_); (case h => exact tyL (by assumption)))
  | dsimp only)
local macro_rules | `(tactic| walk_at "use") => `(tactic| fail)
local macro_rules | `(tactic| walk_at "rd") => `(tactic| repeat' (walk_at "rd1"))
local macro_rules | `(tactic| walk_at "ex") => `(tactic| first | exact Ex.refl _ | assumption | (refine' Ex.trans ?he (by assumption); (case he => walk_at "ex")))

section
variable {P : Program} {w : World} {K : PySem.W.Frag} {mg : Str → Option Value} {base : Heap} {a : Ad} {H : Hp} {Q : VK} {E : XK} {p b : Addr} {q : C}
/-- of the pairs of a text and a list: the ints beside an f -/
def sel (cs : List Nat) (ys : List Int) : List Int := ((cs.zip ys).filter (fun c => c.1 == 102)).map (·.2)
theorem sel_succ {cs : List Nat} {ys : List Int} {i c : Nat} {y : Int} (h1 : cs[i]? = some c) (h2 : ys[i]? = some y) : sel (cs.take (i + 1)) (ys.take (i + 1)) = sel (cs.take i) (ys.take i) ++ (if c = 102 then [y] else []) := by
  unfold sel
  rw [List.take_add_one, List.take_add_one, h1, h2]
  have hl : (cs.take i).length = (ys.take i).length := by
    have a1 := (List.getElem?_eq_some_iff.mp h1).1
    have a2 := (List.getElem?_eq_some_iff.mp h2).1
    rw [List.length_take, List.length_take]
    omega
  rw [show (some c).toList = [c] from rfl, show (some y).toList = [y] from rfl, List.zip_append hl, List.filter_append, List.map_append]
  congr 1
  by_cases e : c = 102
  · subst e; rfl
  · rw [if_neg e]
    simp [e]
theorem sel_len (cs : List Nat) (ys : List Int) : (sel cs ys).length ≤ ys.length := by
  unfold sel
  rw [List.length_map]
  refine Nat.le_trans (List.length_filter_le _ _) ?_
  rw [List.length_zip]
  exact Nat.min_le_right _ _
theorem str1_eq {c : Nat} : (⟨#[c]⟩ : Str) = "f" ↔ c = 102 := by
  constructor
  · intro h
    have e : (⟨#[c]⟩ : Str).cps = (Str.ofString "f").cps := congrArg Str.cps h
    have e2 : (Str.ofString "f").cps = #[102] := by decide +kernel
    rw [e2] at e
    have e3 : #[c] = #[102] := e
    simpa using e3
  · rintro rfl
    decide +kernel
theorem zip_f {σ : L2.St} {x : Str} {ys : List Int} {H1 : Hp} {b : Addr} (hx : H1 b = some (.tup (ys.map V.int))) (hn : x.cps.size = ys.length) (h4 : ys.length ≤ 1000)
    (hσ : ∀ u v, (((wipe σ [1, 2]).set 1 (some u)).set 2 (some v))[1]? = some (some u) ∧ (((wipe σ [1, 2]).set 1 (some u)).set 2 (some v))[2]? = some (some v) ∧ wipe (((wipe σ [1, 2]).set 1 (some u)).set 2 (some v)) [1, 2] = wipe σ [1, 2])
    (k : ∀ p H2, Ex H1 H2 → H1 p = none → H2 p = some (.lst ((sel x.cps.toList ys).map V.int)) → Q (.ref p) H2) :
    ZK K [.str x, .ref b] H1 fun J H2 => LcGo J (gTup K 2 (gCons (gName 1) (gCons (gName 2) gNil))) (tTest (tOp rEq (tVar 1) (tC (.str "f")))) (tVar 2) [1, 2] σ H2 Q := by
  refine lc_zip (n := ys.length) (.inl ⟨hn, by rw [List.length_map]; exact Nat.le_refl _⟩) hx (fun i acc _ => acc = (sel (x.cps.toList.take i) (ys.take i)).map V.int) (by simp [sel]) (fun _ _ _ _ _ h => h) (fun i acc _ h => ?_) (fun u v => (hσ u v).2.2) (fun i c y acc H' hc hy e hI kk k1 k2 => ?_) (fun p zs H2 e hp hz hI => ?_)
  · subst h
    refine ⟨NB.ints, ?_⟩
    rw [List.length_map]
    have a1 := sel_len (x.cps.toList.take i) (ys.take i)
    have a2 : (ys.take i).length ≤ ys.length := List.length_take_le' _ _
    exact Nat.lt_of_le_of_lt (Nat.le_trans a1 (Nat.le_trans a2 h4)) (by decide)
  · obtain ⟨s1, s2, _⟩ := hσ (.str ⟨#[c]⟩) y
    rw [List.getElem?_map] at hy
    cases hy' : ys[i]? with
    | none => rw [hy'] at hy; cases hy
    | some n =>
      rw [hy'] at hy
      have en : V.int n = y := Option.some.inj hy
      subst en
      have hc' : x.cps.toList[i]? = some c := by simpa using hc
      have st := sel_succ hc' hy'
      refine x_test (x_op (x_var s1 (x_c (x_EqS (x_ex_bl (x_iteD (fun h => ?_) (fun h => ?_)))))))
      · refine x_var s2 (k1 _ _ (Ex.refl _) ?_)
        rw [st, if_pos (str1_eq.mp h), List.map_append, hI]
        rfl
      · refine k2 _ (Ex.refl _) ?_
        rw [st, if_neg (fun q => h (str1_eq.mpr q)), List.append_nil, hI]
  · refine k p H2 e hp ?_
    rw [hz, hI, List.take_of_length_le (by rw [Array.length_toList, hn]; exact Nat.le_refl _), List.take_of_length_le (Nat.le_refl _)]
/-! a call by its word, asked once -/
def C.wd : C → Str
  | .all _ => "all" | .up _ _ => "up" | .swap _ _ => "swap" | .wheel _ _ _ => "wheel" | .about => "about" | .front _ _ => "front" | .halve => "halve" | .pair => "pair" | .others => "others" | .fill => "fill"
def C.pp : C → Str
  | .all _ => "k" | .up _ _ => "fk" | .swap _ _ => "ff" | .wheel _ _ _ => "ffk" | .about => "" | .front _ _ => "ff" | .halve => "" | .pair => "" | .others => "" | .fill => ""
def C.ar : C → List Int
  | .all k => [k] | .up f k => [f, k] | .swap f g => [f, g] | .wheel f g k => [f, g, k] | .about => [] | .front f g => [f, g] | .halve => [] | .pair => [] | .others => [] | .fill => []
theorem C.wd0 : atI q.vals 0 = some (.str q.wd) := by cases q <;> rfl
theorem C.cut1 : cutV q.vals (some 1) none = q.ar.map V.int := by cases q <;> rfl
theorem C.noWhole : ¬ (HT.sIx q.vals.length 0 (some 1) = 0 ∧ HT.sIx q.vals.length q.vals.length none = q.vals.length) := by
  cases q <;> with_unfolding_all exact of_decide_eq_true rfl
theorem C.ppar : q.pp.cps.size = q.ar.length := by cases q <;> rfl
theorem C.arLe : q.ar.length ≤ 1000 := by cases q <;> exact Nat.le_of_ble_eq_true rfl
theorem C.selN : sel q.pp.cps.toList q.ar = q.named := by cases q <;> rfl
theorem C.namedLt : q.named.length < 64 := by cases q <;> exact Nat.le_of_ble_eq_true rfl
theorem C.partOf (T : Txt K w mg a) : ∃ t, PySem.W.nsIn K a.d_PARTS q.wd = some (some (.str q.pp t)) := by
  cases q with
  | all _ => exact T.v_PARTS_all
  | up _ _ => exact T.v_PARTS_up
  | swap _ _ => exact T.v_PARTS_swap
  | wheel _ _ _ => exact T.v_PARTS_wheel
  | about => exact T.v_PARTS_about
  | front _ _ => exact T.v_PARTS_front
  | halve => exact T.v_PARTS_halve
  | pair => exact T.v_PARTS_pair
  | others => exact T.v_PARTS_others
  | fill => exact T.v_PARTS_fill
/-! files_of -/
def sp_files_of : Sp := fun vs H Q _ => ∃ (p : Addr) (q : C), vs = [.ref p] ∧ H p = some (.tup q.vals) ∧ ∀ p1 (ns : List Int) H1, Ex H H1 → H1 p1 = some (.lst (ns.map V.int)) → ns.Perm q.named → ns.Pairwise (· ≤ ·) → Q (.ref p1) H1
theorem u_files_of (h : H p = some (.tup q.vals)) (k : ∀ p1 (ns : List Int) H1, Ex H H1 → H1 p1 = some (.lst (ns.map V.int)) → ns.Perm q.named → ns.Pairwise (· ≤ ·) → Q (.ref p1) H1) : sp_files_of [.ref p] H Q E := ⟨p, q, rfl, h, k⟩
theorem ok_files_of (T : Txt K w mg a) : FnOk P w K mg base CX0 1 a.a_files_of a.fd_files_of ["call"] sp_files_of := by
  refine T.F_files_of.ok sc_files_of (fun vs H Q E h => ?_) (fun cdv A outer s H vs Q E hr h => ?_)
  · obtain ⟨p, q, rfl, _⟩ := h; rfl
  · obtain ⟨p, q, rfl, hp, k⟩ := h
    refine ⟨_, (pss_one (ps_ret (pe_callB cr_sorted (by rfl) T.n_sorted (by decide +kernel) (pa_cons (pe_lc (own := [("part", 1), ("item", 2)]) rfl sc_files_of.nd (Zst.pi_zipS (by rfl) T.n_zip (pa_cons (pe_ix ix_kdict (pe_glob (v := .ref a.d_PARTS) (by rfl) T.g_PARTS rfl) (pe_ix ix_tup (pv 0) pe_int (fun _ _ => rfl)) (fun _ _ => rfl)) (pa_cons (pe_slice sl_tup (pv 0) (po_some pe_int) po_none) pa_nil))) (blkOk_by (own := [("part", 1), ("item", 2)]) (N := ["call", "part", "item"]) (sc := defScope s_files_of) (by decide +kernel)) (fun _ _ _ _ _ => (pg_tupB (n := 2) rfl (pgs_cons (pg_name (i := 1) sc_files_of.nd rfl (Or.inl rfl) (Or.inr rfl)) (pgs_cons (pg_name (i := 2) sc_files_of.nd rfl (Or.inl rfl) (Or.inr rfl)) pgs_nil)))) (fun _ _ _ _ _ => (pts_one (pt_cmpR op_eq (pv 1) pe_str (nomark _)))) (fun _ _ _ _ _ => (pv 2))) pa_nil)))), ?_⟩
    have d_PARTS := T.d_PARTS
    have hw := C.partOf (q := q) T
    have h0 : atI q.vals 0 = some (.str q.wd) := C.wd0
    walk_at "rd"
    refine x_slT hp C.noWhole ?_
    walk_at "rd"
    rename_i h
    rw [C.cut1] at h
    refine zip_f h C.ppar C.arLe (fun u v => ⟨rfl, rfl, rfl⟩) fun p1 H2 e1 e2 e3 => ?_
    rw [C.selN] at e3
    refine x_sorted e3 C.namedLt fun ns' p2 H3 g1 g2 g3 g4 g5 => ?_
    exact k _ _ _ (Ex.trans (by walk_at "ex") g3) g5 g1 g2
end
end My

set_option Elab.async false
set_option linter.all false
set_option maxRecDepth 100000
set_option maxHeartbeats 8000000
namespace My
open PySem PySem.Spec PyProof.Rows L2 Sx
local macro_rules | `(tactic| walk_at "nb") => `(tactic| first | exact NB.tup | exact NB.ints | exact NB.len (of_decide_eq_true rfl) | exact NB.at0b rfl | exact NB.at3b rfl | exact NB.ins | exact NB.own | exact NB.frz | exact NB.refs (by assumption) | assumption)
local macro_rules | `(tactic| walk_at "ne") => `(tactic| first | assumption | exact Ne.symm (by assumption) | exact ne_of_none (by assumption) (by assumption) | exact Ne.symm (ne_of_none (by assumption) (by assumption)))
local macro_rules | `(tactic| walk_at "hk") => `(tactic| first
  | assumption
  | exact upd_same
  | (refine' (upd_ne ?hkne).trans ?hkq; (case hkne => walk_at "ne"); (case hkq => walk_at "hk"))
  | (refine' Ex.kp (by assumption) _ _ ?hkq ?hkn; (case hkq => walk_at "hk"); (case hkn => walk_at "nb")))
local macro_rules | `(tactic| walk_at "rd1") => `(tactic| first
  | ((with_reducible refine' x_var ?hx ?_); (case hx => exact rfl))
  | with_reducible refine x_c ?_
  | with_reducible refine x_op ?_
  | with_reducible refine x_un ?_
  | with_reducible refine x_I0 ?_
  | with_reducible refine x_U ?_
  | ((with_reducible refine x_I ?hc ?_); (case hc => first | exact (by decide : (0 : Int) < _) | (show (0 : Int) < _; omega) | (show CMul _ _; first | exact .inl ⟨by omega, by omega⟩ | exact .inr ⟨by omega, by omega⟩) | (show CDiv _ _; exact ⟨by omega, by omega⟩) | (show CDivW _ _; exact wide_div (b := 200) (by omega) (by assumption) (by decide) (by decide)) | (show CDivW _ _; exact wide_div (b := 31) (by omega) (by omega) (by decide) (by decide))))
  | with_reducible refine x_EqI ?_
  | with_reducible refine x_NeI ?_
  | ((with_reducible refine x_EqSt ?h ?_); (case h => decide +kernel))
  | ((with_reducible refine x_EqSf ?h ?_); (case h => decide +kernel))
  | ((with_reducible refine x_NeSt ?h ?_); (case h => decide +kernel))
  | ((with_reducible refine x_NeSf ?h ?_); (case h => decide +kernel))
  | with_reducible refine x_EqS ?_
  | with_reducible refine x_NeS ?_
  | ((with_reducible refine' x_ixL ?hq ?hi ?_); (case hq => walk_at "hk"); (case hi => first | exact rfl | assumption))
  | ((with_reducible refine' x_ixT ?hq ?hi ?_); (case hq => walk_at "hk"); (case hi => first | exact rfl | assumption))
  | with_reducible refine x_chain ?_
  | with_reducible refine x_tup ?_
  | with_reducible refine x_lst ?_
  | ((with_reducible refine x_lenNew ?hl ?_); (case hl => exact Nat.le_of_ble_eq_true rfl); intro _ _ _ _ _)
  | ((with_reducible refine x_new ?_); intro _ _ _ _ _)
  | with_reducible refine x_sl ?_
  | with_reducible refine x_noPart ?_
  | with_reducible refine x_part ?_
  | with_reducible refine x_ex_int ?_
  | with_reducible refine x_ex_bl ?_
  | with_reducible refine x_ex_2 ?_
  | with_reducible refine x_test ?_
  | with_reducible refine x_B ?_
  | with_reducible refine x_and ?_
  | with_reducible refine x_or ?_
  | with_reducible refine x_not ?_
  | with_reducible refine x_andV ?_
  | with_reducible refine x_orV ?_
  | with_reducible refine x_notV ?_
  | with_reducible refine x_ifE ?_
  | with_reducible refine x_iteT ?_
  | with_reducible refine x_iteF ?_
  | ((with_reducible refine x_iteD ?_ ?_) <;> intro _)
  | ((with_reducible refine x_iteN ?_ ?_) <;> intro _)
  | with_reducible refine x_if ?_
  | with_reducible refine x_seq ?_
  | with_reducible refine x_next ?_
  | with_reducible refine x_asg ?_
  | with_reducible refine x_gName ?_
  | ((with_reducible refine' x_gTup ?hq ?hn ?_); (case hq => walk_at "hk"); (case hn => exact rfl))
  | with_reducible refine x_gCons ?_
  | with_reducible refine x_gNil ?_
  | ((with_reducible refine' x_gConsE ?h ?_); (case h => exact rfl))
  | ((with_reducible refine x_gNilE ?h ?_); (case h => exact rfl))
  | with_reducible refine x_ret ?_
  | with_reducible refine x_drop ?_
  | with_reducible refine x_par ?_
  | ((with_reducible refine' x_aug ?hx ?_); (case hx => exact rfl))
  | with_reducible refine x_ipI ?_
  | with_reducible refine x_augS ?_
  | with_reducible refine x_gSub ?_
  | ((with_reducible refine' x_setL ?hq ?hi ?_); (case hq => walk_at "hk"); (case hi => first | exact rfl | assumption))
  | with_reducible refine x_cons ?_
  | with_reducible refine x_nil ?_
  | with_reducible refine x_CB ?_
  | with_reducible refine x_abs ?_
  | with_reducible refine x_intI ?_
  | with_reducible refine x_intB ?_
  | ((with_reducible refine' x_lenL ?hq ?_); (case hq => walk_at "hk"))
  | ((with_reducible refine' x_lenT ?hq ?_); (case hq => walk_at "hk"))
  | ((with_reducible refine x_iteTe ?h ?_); (case h => exact rfl))
  | ((with_reducible refine x_iteFe ?h ?_); (case h => exact rfl))
  | walk_at "use"
  | with_reducible refine x_callS ?_
  | ((with_reducible refine x_lc ?_))
  | ((with_reducible refine x_for ?_))
  | ((with_reducible refine x_iR1 ?_))
  | ((with_reducible refine x_iL ?_))
  | ((with_reducible refine x_iZ ?_))
  | ((with_reducible refine x_yes ?_))
  | ((with_reducible refine' x_NIDt ?hq ?_); (case hq => assumption))
  | ((with_reducible refine' x_NIDf ?hq ?_); (case hq => assumption))
  | ((with_reducible refine' x_IIDf ?hq ?_); (case hq => assumption))
  | ((with_reducible refine' x_IIDt ?hq ?_); (case hq => assumption))
  | ((with_reducible refine' x_ixDs ?hd ?hq ?_); (case hd => assumption); (case hq => assumption))
  | ((with_reducible refine x_InSt ?h ?_); (case h => decide +kernel))
  | ((with_reducible refine x_InSf ?h ?_); (case h => decide +kernel))
  | ((with_reducible refine' x_notInI ?hq ?_); (case hq => walk_at "hk"))
  | ((with_reducible refine' x_inTt ?hq ?hv ?ha ?he ?_); (case hq => walk_at "hk"); (case hv => exact rfl); (case ha => exact rfl); (case he => decide +kernel))
  | ((with_reducible refine' x_inTf ?hq ?hv ?ha ?he ?_); (case hq => walk_at "hk"); (case hv => exact rfl); (case ha => exact rfl); (case he => decide +kernel))
  | ((with_reducible refine' x_slT ?hq ?hw ?_); (case hq => walk_at "hk"); (case hw => with_unfolding_all exact of_decide_eq_true rfl))
  | ((with_reducible refine' x_slL ?hq ?_); (case hq => walk_at "hk"))
  | ((with_reducible refine' x_catT ?hq ?hr ?n1 ?n2 ?hl ?_); (case hq => walk_at "hk"); (case hr => walk_at "hk"); (case n1 => exact List.cons_ne_nil _ _); (case n2 => exact List.cons_ne_nil _ _); (case hl => exact Nat.le_of_ble_eq_true rfl))
  | ((with_reducible refine x_bm ?_))
  | ((with_reducible refine x_lstRg ?_))
  | ((with_reducible refine x_rg1 ?_))
  | ((with_reducible refine And.intro ?h ?_); (case h => exact tyL (by assumption)))
  | dsimp only)
local macro_rules | `(tactic| walk_at "use") => `(tactic| fail)
local macro_rules | `(tactic| walk_at "rd") => `(tactic| repeat' (walk_at "rd1"))
local macro_rules | `(tactic| walk_at "ex") => `(tactic| first | exact Ex.refl _ | assumption | (refine' Ex.trans ?he (by assumption); (case he => walk_at "ex")))

section
variable {P : Program} {w : World} {K : PySem.W.Frag} {mg : Str → Option Value} {base : Heap} {a : Ad} {H : Hp} {Q : VK} {E : XK} {p b : Addr} {q : C}
def C.hasKb : C → Bool
  | .all _ => true | .up _ _ => true | .wheel _ _ _ => true | _ => false
def C.kkb : C → Int
  | .all k => k | .up _ k => k | .wheel _ _ k => k | _ => 0
theorem C.atKb (h : q.hasKb = true) : atI q.vals (-1) = some (.int q.kkb) := by cases q <;> first | rfl | cases h
theorem C.kIn : (Builtin.Str.occurrences q.pp "k" 0 q.pp.length 1).isEmpty = !q.hasKb := by cases q <;> simp only [C.pp, C.hasKb] <;> decide +kernel
theorem x_kIn (k : Q (.bl q.hasKb) H) : rInS (.str "k") (.str q.pp) H Q := ⟨_, _, rfl, rfl, by rw [C.kIn, Bool.not_not]; exact k⟩
theorem C.noWholeK : ¬ (HT.sIx q.vals.length 0 none = 0 ∧ HT.sIx q.vals.length q.vals.length (some (-1)) = q.vals.length) := by
  cases q <;> with_unfolding_all exact of_decide_eq_true rfl
theorem C.cutK (h : q.hasKb = true) : cutV q.vals none (some (-1)) ≠ [] ∧ (cutV q.vals none (some (-1))).length ≤ 3 ∧ cutV q.vals none (some (-1)) ++ [.int (-q.kkb)] = q.turned.vals := by
  cases q <;> first | exact ⟨List.cons_ne_nil _ _, Nat.le_of_ble_eq_true rfl, rfl⟩ | cases h
theorem C.undoNo (T : Txt K w mg a) (h : q.straight = true) : PySem.W.nsIn K a.d_UNDOING q.wd = some none := by
  cases q with
  | all _ => exact T.o_UNDOING_all
  | up _ _ => exact T.o_UNDOING_up
  | swap _ _ => exact T.o_UNDOING_swap
  | wheel _ _ _ => exact T.o_UNDOING_wheel
  | about => exact T.o_UNDOING_about
  | front _ _ => exact T.o_UNDOING_front
  | _ => cases h
theorem C.undoOf (T : Txt K w mg a) (h : q.straight = false) : ∃ t, PySem.W.nsIn K a.d_UNDOING q.wd = some (some (.str q.turned.wd t)) := by
  cases q with
  | halve => exact T.v_UNDOING_halve
  | pair => exact T.v_UNDOING_pair
  | others => exact T.v_UNDOING_others
  | fill => exact T.v_UNDOING_fill
  | _ => cases h
theorem C.turnedNo (h : q.straight = true) (hk : q.hasKb = false) : q.turned = q := by
  cases q with
  | swap _ _ => rfl
  | about => rfl
  | front _ _ => rfl
  | all _ => cases hk
  | up _ _ => cases hk
  | wheel _ _ _ => cases hk
  | _ => cases h
theorem C.turnedOpen (h : q.straight = false) : q.turned.vals = [.str q.turned.wd] := by cases q <;> first | rfl | cases h
/-! is_straight -/
def sp_is_straight : Sp := fun vs H Q _ => ∃ (p : Addr) (q : C), vs = [.ref p] ∧ H p = some (.tup q.vals) ∧ ∀ H1, Ex H H1 → Q (.bl q.straight) H1
theorem u_is_straight (h : H p = some (.tup q.vals)) (k : ∀ H1, Ex H H1 → Q (.bl q.straight) H1) : sp_is_straight [.ref p] H Q E := ⟨p, q, rfl, h, k⟩
theorem ok_is_straight (T : Txt K w mg a) : FnOk P w K mg base CX0 1 a.a_is_straight a.fd_is_straight ["call"] sp_is_straight := by
  refine T.F_is_straight.ok sc_is_straight (fun vs H Q E h => ?_) (fun cdv A outer s H vs Q E hr h => ?_)
  · obtain ⟨p, q, rfl, _⟩ := h; rfl
  · obtain ⟨p, q, rfl, hp, k⟩ := h
    refine ⟨_, (pss_one (ps_ret (pe_cmpR (c_notInD T.d_UNDOING) (pe_ix ix_tup (pv 0) pe_int (fun _ _ => rfl)) (pe_glob (v := .ref a.d_UNDOING) (by rfl) T.g_UNDOING rfl) (by rfl)))), ?_⟩
    have h0 : atI q.vals 0 = some (.str q.wd) := C.wd0
    cases hs : q.straight with
    | true =>
      rw [hs] at k
      have hn := C.undoNo T hs
      walk_at "rd"
      exact k _ (Ex.refl _)
    | false =>
      rw [hs] at k
      obtain ⟨_, hn⟩ := C.undoOf T hs
      walk_at "rd"
      exact k _ (Ex.refl _)
/-! turned -/
def sp_turned : Sp := fun vs H Q _ => ∃ (p : Addr) (q : C), vs = [.ref p] ∧ H p = some (.tup q.vals) ∧ ∀ p1 H1, Ex H H1 → H1 p1 = some (.tup q.turned.vals) → Q (.ref p1) H1
theorem u_turned (h : H p = some (.tup q.vals)) (k : ∀ p1 H1, Ex H H1 → H1 p1 = some (.tup q.turned.vals) → Q (.ref p1) H1) : sp_turned [.ref p] H Q E := ⟨p, q, rfl, h, k⟩
theorem ok_turned (T : Txt K w mg a) : FnOk P w K mg base CX0 1 a.a_turned a.fd_turned ["call"] sp_turned := by
  refine T.F_turned.ok sc_turned (fun vs H Q E h => ?_) (fun cdv A outer s H vs Q E hr h => ?_)
  · obtain ⟨p, q, rfl, _⟩ := h; rfl
  · obtain ⟨p, q, rfl, hp, k⟩ := h
    refine ⟨_, (pss_cons (ps_if (pt_cmpR c_inS pe_str (pe_ix ix_kdict (pe_glob (v := .ref a.d_PARTS) (by rfl) T.g_PARTS rfl) (pe_ix ix_tup (pv 0) pe_int (fun _ _ => rfl)) (fun _ _ => rfl)) (by rfl)) (pss_one (ps_ret (pe_op op_catT (pe_slice sl_tup (pv 0) po_none (po_some (pe_un un_neg pe_int))) (pe_tup (pa_cons (pe_un un_neg (pe_ix ix_tup (pv 0) (pe_un un_neg pe_int) (fun _ _ => rfl))) pa_nil))))) pss_nil)
      (pss_cons (ps_if (pt_cmpR (c_inD T.d_UNDOING) (pe_ix ix_tup (pv 0) pe_int (fun _ _ => rfl)) (pe_glob (v := .ref a.d_UNDOING) (by rfl) T.g_UNDOING rfl) (by rfl)) (pss_one (ps_ret (pe_tup (pa_cons (pe_ix ix_kdict (pe_glob (v := .ref a.d_UNDOING) (by rfl) T.g_UNDOING rfl) (pe_ix ix_tup (pv 0) pe_int (fun _ _ => rfl)) (fun _ _ => rfl)) pa_nil)))) pss_nil)
      (pss_one (ps_ret (pv 0))))), ?_⟩
    have d_PARTS := T.d_PARTS
    have d_UNDOING := T.d_UNDOING
    have hw := C.partOf (q := q) T
    have h0 : atI q.vals 0 = some (.str q.wd) := C.wd0
    walk_at "rd"
    refine x_kIn ?_
    walk_at "rd"
    refine x_iteB (fun hK => ?_) (fun hK => ?_)
    · have cK := C.atKb hK
      obtain ⟨c1, c2, c3⟩ := C.cutK hK
      walk_at "rd"
      refine x_slT hp C.noWholeK ?_
      walk_at "rd"
      rename_i p1 H1 e1 f1 h1 p2 H2 e2 f2 h2
      refine x_catT (e2.kp _ _ h1 NB.tup) h2 c1 (List.cons_ne_nil _ _) (Nat.le_trans (Nat.add_le_add_right c2 _) (Nat.le_of_ble_eq_true rfl)) (x_new fun p3 H3 e3 f3 h3 => ?_)
      exact k _ _ (by walk_at "ex") (by rw [h3, c3])
    · cases hs : q.straight with
      | true =>
        have hn := C.undoNo T hs
        walk_at "rd"
        exact k _ _ (Ex.refl _) (by rw [C.turnedNo hs hK]; exact hp)
      | false =>
        have hu := C.undoOf T hs
        obtain ⟨_, hn⟩ := id hu
        walk_at "rd"
        rename_i h
        exact k _ _ (by walk_at "ex") (by rw [h, C.turnedOpen hs])
end
end My

set_option Elab.async false
set_option linter.all false
set_option maxRecDepth 100000
set_option maxHeartbeats 8000000
namespace My
open PySem PySem.Spec PyProof.Rows L2 Sx
local macro_rules | `(tactic| walk_at "nb") => `(tactic| first | exact NB.tup | exact NB.ints | exact NB.len (of_decide_eq_true rfl) | exact NB.at0b rfl | exact NB.at3b rfl | exact NB.ins | exact NB.own | exact NB.frz | exact NB.refs (by assumption) | assumption)
local macro_rules | `(tactic| walk_at "ne") => `(tactic| first | assumption | exact Ne.symm (by assumption) | exact ne_of_none (by assumption) (by assumption) | exact Ne.symm (ne_of_none (by assumption) (by assumption)))
local macro_rules | `(tactic| walk_at "hk") => `(tactic| first
  | assumption
  | exact upd_same
  | (refine' (upd_ne ?hkne).trans ?hkq; (case hkne => walk_at "ne"); (case hkq => walk_at "hk"))
  | (refine' Ex.kp (by assumption) _ _ ?hkq ?hkn; (case hkq => walk_at "hk"); (case hkn => walk_at "nb")))
local macro_rules | `(tactic| walk_at "rd1") => `(tactic| first
  | ((with_reducible refine' x_var ?hx ?_); (case hx => exact rfl))
  | with_reducible refine x_c ?_
  | with_reducible refine x_op ?_
  | with_reducible refine x_un ?_
  | with_reducible refine x_I0 ?_
  | with_reducible refine x_U ?_
  | ((with_reducible refine x_I ?hc ?_); (case hc => first | exact (by decide : (0 : Int) < _) | (show (0 : Int) < _; omega) | (show CMul _ _; first | exact .inl ⟨by omega, by omega⟩ | exact .inr ⟨by omega, by omega⟩) | (show CDiv _ _; exact ⟨by omega, by omega⟩) | (show CDivW _ _; exact wide_div (b := 200) (by omega) (by assumption) (by decide) (by decide)) | (show CDivW _ _; exact wide_div (b := 31) (by omega) (by omega) (by decide) (by decide))))
  | with_reducible refine x_EqI ?_
  | with_reducible refine x_NeI ?_
  | ((with_reducible refine x_EqSt ?h ?_); (case h => decide +kernel))
  | ((with_reducible refine x_EqSf ?h ?_); (case h => decide +kernel))
  | ((with_reducible refine x_NeSt ?h ?_); (case h => decide +kernel))
  | ((with_reducible refine x_NeSf ?h ?_); (case h => decide +kernel))
  | with_reducible refine x_EqS ?_
  | with_reducible refine x_NeS ?_
  | ((with_reducible refine' x_ixL ?hq ?hi ?_); (case hq => walk_at "hk"); (case hi => first | exact rfl | assumption))
  | ((with_reducible refine' x_ixT ?hq ?hi ?_); (case hq => walk_at "hk"); (case hi => first | exact rfl | assumption))
  | with_reducible refine x_chain ?_
  | with_reducible refine x_tup ?_
  | with_reducible refine x_lst ?_
  | ((with_reducible refine x_lenNew ?hl ?_); (case hl => exact Nat.le_of_ble_eq_true rfl); intro _ _ _ _ _)
  | ((with_reducible refine x_new ?_); intro _ _ _ _ _)
  | with_reducible refine x_sl ?_
  | with_reducible refine x_noPart ?_
  | with_reducible refine x_part ?_
  | with_reducible refine x_ex_int ?_
  | with_reducible refine x_ex_bl ?_
  | with_reducible refine x_ex_2 ?_
  | with_reducible refine x_test ?_
  | with_reducible refine x_B ?_
  | with_reducible refine x_and ?_
  | with_reducible refine x_or ?_
  | with_reducible refine x_not ?_
  | with_reducible refine x_andV ?_
  | with_reducible refine x_orV ?_
  | with_reducible refine x_notV ?_
  | with_reducible refine x_ifE ?_
  | with_reducible refine x_iteT ?_
  | with_reducible refine x_iteF ?_
  | ((with_reducible refine x_iteD ?_ ?_) <;> intro _)
  | ((with_reducible refine x_iteN ?_ ?_) <;> intro _)
  | with_reducible refine x_if ?_
  | with_reducible refine x_seq ?_
  | with_reducible refine x_next ?_
  | with_reducible refine x_asg ?_
  | with_reducible refine x_gName ?_
  | ((with_reducible refine' x_gTup ?hq ?hn ?_); (case hq => walk_at "hk"); (case hn => exact rfl))
  | with_reducible refine x_gCons ?_
  | with_reducible refine x_gNil ?_
  | ((with_reducible refine' x_gConsE ?h ?_); (case h => exact rfl))
  | ((with_reducible refine x_gNilE ?h ?_); (case h => exact rfl))
  | with_reducible refine x_ret ?_
  | with_reducible refine x_drop ?_
  | with_reducible refine x_par ?_
  | ((with_reducible refine' x_aug ?hx ?_); (case hx => exact rfl))
  | with_reducible refine x_ipI ?_
  | with_reducible refine x_augS ?_
  | with_reducible refine x_gSub ?_
  | ((with_reducible refine' x_setL ?hq ?hi ?_); (case hq => walk_at "hk"); (case hi => first | exact rfl | assumption))
  | with_reducible refine x_cons ?_
  | with_reducible refine x_nil ?_
  | with_reducible refine x_CB ?_
  | with_reducible refine x_abs ?_
  | with_reducible refine x_intI ?_
  | with_reducible refine x_intB ?_
  | ((with_reducible refine' x_lenL ?hq ?_); (case hq => walk_at "hk"))
  | ((with_reducible refine' x_lenT ?hq ?_); (case hq => walk_at "hk"))
  | ((with_reducible refine x_iteTe ?h ?_); (case h => exact rfl))
  | ((with_reducible refine x_iteFe ?h ?_); (case h => exact rfl))
  | walk_at "use"
  | with_reducible refine x_callS ?_
  | ((with_reducible refine x_lc ?_))
  | ((with_reducible refine x_for ?_))
  | ((with_reducible refine x_iR1 ?_))
  | ((with_reducible refine x_iL ?_))
  | ((with_reducible refine x_iZ ?_))
  | ((with_reducible refine x_yes ?_))
  | ((with_reducible refine' x_NIDt ?hq ?_); (case hq => assumption))
  | ((with_reducible refine' x_NIDf ?hq ?_); (case hq => assumption))
  | ((with_reducible refine' x_IIDf ?hq ?_); (case hq => assumption))
  | ((with_reducible refine' x_IIDt ?hq ?_); (case hq => assumption))
  | ((with_reducible refine' x_ixDs ?hd ?hq ?_); (case hd => assumption); (case hq => assumption))
  | ((with_reducible refine x_InSt ?h ?_); (case h => decide +kernel))
  | ((with_reducible refine x_InSf ?h ?_); (case h => decide +kernel))
  | ((with_reducible refine' x_notInI ?hq ?_); (case hq => walk_at "hk"))
  | ((with_reducible refine' x_inTt ?hq ?hv ?ha ?he ?_); (case hq => walk_at "hk"); (case hv => exact rfl); (case ha => exact rfl); (case he => decide +kernel))
  | ((with_reducible refine' x_inTf ?hq ?hv ?ha ?he ?_); (case hq => walk_at "hk"); (case hv => exact rfl); (case ha => exact rfl); (case he => decide +kernel))
  | ((with_reducible refine' x_slT ?hq ?hw ?_); (case hq => walk_at "hk"); (case hw => with_unfolding_all exact of_decide_eq_true rfl))
  | ((with_reducible refine' x_slL ?hq ?_); (case hq => walk_at "hk"))
  | ((with_reducible refine' x_catT ?hq ?hr ?n1 ?n2 ?hl ?_); (case hq => walk_at "hk"); (case hr => walk_at "hk"); (case n1 => exact List.cons_ne_nil _ _); (case n2 => exact List.cons_ne_nil _ _); (case hl => exact Nat.le_of_ble_eq_true rfl))
  | ((with_reducible refine x_bm ?_))
  | ((with_reducible refine x_lstRg ?_))
  | ((with_reducible refine x_rg1 ?_))
  | ((with_reducible refine And.intro ?h ?_); (case h => exact tyL (by assumption)))
  | dsimp only)
local macro_rules | `(tactic| walk_at "use") => `(tactic| fail)
local macro_rules | `(tactic| walk_at "rd") => `(tactic| repeat' (walk_at "rd1"))
local macro_rules | `(tactic| walk_at "ex") => `(tactic| first | exact Ex.refl _ | assumption | (refine' Ex.trans ?he (by assumption); (case he => walk_at "ex")))

local macro_rules | `(tactic| walk_at "bg") => `(tactic| first | assumption | exact Ex.bag (by assumption) (by walk_at "bg"))
section
variable {P : Program} {w : World} {K : PySem.W.Frag} {mg : Str → Option Value} {base : Heap} {a : Ad} {H H1 H' : Hp} {Q : VK} {E : XK} {p b s : Addr} {q : C}
theorem x_condB {t : TT} {σ : L2.St} {H : Hp} {Q : Bool → Hp → Prop} (b : Bool) (c : ∀ Q' : Bool → Hp → Prop, Q' b H → t σ H Q') (k : Q b H) : t σ H Q := c Q k
/-- two ways to one place: what follows is walked once -/
theorem x_joinS {c : Bool} {tu tw : TS} {D : Ends} {σ : L2.St} {H : Hp} (R : L2.St → Hp → Prop) (kR : ∀ N : L2.St → Hp → Prop, (∀ σ' H', R σ' H' → N σ' H') → if c = true then tu { D with nx := N } σ H else tw { D with nx := N } σ H) (k : ∀ σ' H', R σ' H' → D.nx σ' H') : if c = true then tu D σ H else tw D σ H := kR D.nx k
/-! the draws -/
def sp_Ltake : Sp := fun vs H Q _ => ∃ (b : Addr) (m : Int), vs = [.ref b, .int m] ∧ Bag b H ∧ 0 < m ∧ m.natAbs < 2 ^ 200 ∧ ∀ d H1, Ex H H1 → 0 ≤ d → d < m → Q (.int d) H1
theorem u_Ltake {m : Int} (hb : Bag b H) (h0 : 0 < m) (h1 : m.natAbs < 2 ^ 200) (k : ∀ d H1, Ex H H1 → 0 ≤ d → d < m → Q (.int d) H1) : sp_Ltake [.ref b, .int m] H Q E := ⟨b, m, rfl, hb, h0, h1, k⟩
theorem ok_Ltake (T : Txt K w mg a) : FnOk P w K mg base CX0 1 a.a_Ltake a.fd_Ltake ["_law_bag_here", "_law_many"] sp_Ltake := by
  refine T.F_Ltake.ok sc_Ltake (fun vs H Q E h => ?_) (fun cdv A outer s H vs Q E hr h => ?_)
  · obtain ⟨b, m, rfl, _⟩ := h; rfl
  · obtain ⟨b, m, rfl, ⟨c, ⟨x, y, z, ns, hb, hc, hx, hy, hy2, hz⟩⟩, hm, hm2, k⟩ := h
    have hcb : c ≠ b := ne_of hc hb (NB.ints x y z c)
    have fin : ∀ (H1 : Hp) (v x' y' z' : Int), (∀ a, a ≠ b → H1 a = H a) → H1 b = some (.lst [.int x', .int y', .int z', .ref c]) → 0 ≤ x' → 0 ≤ y' → y' < 2147483647 → 0 ≤ z' → Q (.int (v % m)) H1 := by
      intro H1 v x' y' z' s1 s2 s3 s4 s5 s6
      exact k _ _ (Ex.bagTo hb s1 s2 s3 s4 s5 s6) (Int.emod_nonneg _ (by omega)) (Int.emod_lt_of_pos _ hm)
    refine ⟨_, (pss_cons (ps_if (pt_cmpR op_eq (pe_ix ix_list (pv 0) pe_int (fun _ _ => rfl)) pe_int (nomark _)) (pss_cons (ps_set (i := 2) sc_Ltake.nd rfl (Or.inl rfl) pe_int)
      (pss_cons (ps_if (pt_cmpR op_lt (pe_ix ix_list (pv 0) pe_int (fun _ _ => rfl)) (pe_callB c_len (by rfl) T.n_len PySem.boot_len (pa_cons (pe_ix ix_list (pv 0) pe_int (fun _ _ => rfl)) pa_nil)) (nomark _)) (pss_one (ps_set (i := 2) sc_Ltake.nd rfl (Or.inl rfl) (pe_ix ix_list (pe_ix ix_list (pv 0) pe_int (fun _ _ => rfl)) (pe_ix ix_list (pv 0) pe_int (fun _ _ => rfl)) (fun _ _ => rfl)))) pss_nil)
      (pss_cons (ps_augS (pv 0) pe_int get_list pe_int ip_add set_list)
      (pss_cons (ps_if (pt_cmpR op_ge (pv 2) pe_int (nomark _)) (pss_one (ps_asg (pv 2) (pg_sub (pv 0) pe_int set_list))) pss_nil)
      (pss_cons (ps_set (i := 3) sc_Ltake.nd rfl (Or.inl rfl) (pe_op op_add (pe_op op_add (pe_op op_mul (pe_ix ix_list (pv 0) pe_int (fun _ _ => rfl)) pe_int) (pe_op op_mod (pe_callTy c_int (by rfl) T.n_int (by decide +kernel) (pa_cons (pv 2) pa_nil)) pe_int)) (pe_op op_mul pe_int (pe_ix ix_list (pv 0) pe_int (fun _ _ => rfl)))))
      (pss_one (ps_asg (pe_op op_mod (pe_callTy c_int (by rfl) T.n_int (by decide +kernel) (pa_cons (pv 3) pa_nil)) pe_int) (pg_sub (pv 0) pe_int set_list)))))))) pss_nil)
      (pss_cons (ps_if (pt_cmpR op_gt (pe_ix ix_list (pv 0) pe_int (fun _ _ => rfl)) pe_int (nomark _)) (pss_cons (ps_set (i := 4) sc_Ltake.nd rfl (Or.inl rfl) (pe_op op_mod (pe_callTy c_int (by rfl) T.n_int (by decide +kernel) (pa_cons (pe_ix ix_list (pv 0) pe_int (fun _ _ => rfl)) pa_nil)) (pv 1)))
      (pss_cons (ps_asg (pe_op op_fdivW (pe_callTy c_int (by rfl) T.n_int (by decide +kernel) (pa_cons (pe_ix ix_list (pv 0) pe_int (fun _ _ => rfl)) pa_nil)) (pv 1)) (pg_sub (pv 0) pe_int set_list))
      (pss_one (ps_ret (pv 4))))) pss_nil)
      (pss_cons (ps_set (i := 5) sc_Ltake.nd rfl (Or.inl rfl) (pe_op op_mod (pe_callTy c_int (by rfl) T.n_int (by decide +kernel) (pa_cons (pe_op op_mul (pe_op op_add (pe_ix ix_list (pv 0) pe_int (fun _ _ => rfl)) pe_int) pe_int) pa_nil)) pe_int))
      (pss_cons (ps_set (i := 6) sc_Ltake.nd rfl (Or.inl rfl) (pe_op op_mod (pe_callTy c_int (by rfl) T.n_int (by decide +kernel) (pa_cons (pe_op op_mul (pe_op op_mod (pe_callTy c_int (by rfl) T.n_int (by decide +kernel) (pa_cons (pe_op op_mul (pv 5) (pv 5)) pa_nil)) pe_int) pe_int) pa_nil)) pe_int))
      (pss_one (ps_ret (pe_op op_mod (pe_callTy c_int (by rfl) T.n_int (by decide +kernel) (pa_cons (pe_op op_fdiv (pv 6) pe_int) pa_nil)) (pv 1)))))))), ?_⟩
    refine x_seq (x_if (x_condB (decide (x = 0)) (fun Q' kk => ?_) ?_))
    · clear fin k
      walk_at "rd"
      exact kk
    refine x_joinS (fun σ' H' => ∃ (v2 v3 v4 v5 v6 : Option V) (x' y' z' : Int), σ' = [some (.ref b), some (.int m), v2, v3, v4, v5, v6] ∧ (∀ a, a ≠ b → H' a = H a) ∧ H' b = some (.lst [.int x', .int y', .int z', .ref c]) ∧ 0 ≤ x' ∧ 0 ≤ y' ∧ y' < 2147483647 ∧ 0 ≤ z') (fun N kN => ?_) fun σ' H' h => ?_
    · clear fin k
      walk_at "rd"
      rotate_left
      all_goals try (exfalso; omega)
      rotate_right
      · rename_i hlt
        obtain ⟨n, hn⟩ := at_map (ns := ns) hz hlt
        refine x_ixL hc hn ?_
        walk_at "rd"
        all_goals exact kN _ _ ⟨_, _, _, _, _, _, _, _, rfl, fun a n => by first | rfl | simp only [upd, if_neg n], by first | exact hb | exact upd_same, by omega, by omega, by omega, by omega⟩
      all_goals exact kN _ _ ⟨_, _, _, _, _, _, _, _, rfl, fun a n => by first | rfl | simp only [upd, if_neg n], by first | exact hb | exact upd_same, by omega, by omega, by omega, by omega⟩
    · obtain ⟨v2, v3, v4, v5, v6, x', y', z', rfl, s1, hb', s3, s4, s5, s6⟩ := h
      clear hx hy hy2 hz
      walk_at "rd"
      · refine fin _ _ _ _ _ (fun a n => by rw [upd_ne n]; exact s1 a n) upd_same ?_ s4 s5 s6
        exact Int.ediv_nonneg (by omega) (by omega)
      · exact fin _ _ _ _ _ s1 hb' s3 s4 s5 s6
local macro_rules | `(tactic| walk_at "use") => `(tactic| ((with_reducible refine' u_Ltake ?hb ?h0 ?h1 ?_); (case hb => walk_at "bg"); (case h0 => omega); (case h1 => omega); intro _ _ _ _ _))
theorem x_slLq {xs : List V} {lo hi : Option Int} (h : SqL K H s xs) (k : JustNew (.lst (cutV xs lo hi)) H Q) : rSlL K (.ref s) lo hi H Q := ⟨s, xs, rfl, h, k⟩
theorem cut_ints (ns : List Int) (lo hi : Option Int) : ∃ ms : List Int, cutV (ns.map V.int) lo hi = ms.map V.int ∧ ms.length ≤ ns.length := by
  refine ⟨(ns.drop (HT.sIx (ns.map V.int).length 0 lo)).take (HT.sIx (ns.map V.int).length (ns.map V.int).length hi - HT.sIx (ns.map V.int).length 0 lo), ?_, ?_⟩
  · unfold cutV
    rw [List.map_take, List.map_drop]
  · rw [List.length_take, List.length_drop]
    omega
def sp_Lbag (K : PySem.W.Frag) : Sp := fun vs H Q _ => ∃ (s : Addr) (ns : List Int), vs = [.ref s] ∧ SqL K H s (ns.map V.int) ∧ ns.length ≤ 63 ∧ ∀ b H1, Ex H H1 → Bag b H1 → Q (.ref b) H1
theorem u_Lbag {ns : List Int} (h : SqL K H s (ns.map V.int)) (hl : ns.length ≤ 63) (k : ∀ b H1, Ex H H1 → Bag b H1 → Q (.ref b) H1) : sp_Lbag K [.ref s] H Q E := ⟨s, ns, rfl, h, hl, k⟩
theorem ok_Lbag (T : Txt K w mg a) : FnOk P w K mg base CX0 1 a.a_Lbag a.fd_Lbag ["_law_script"] (sp_Lbag K) := by
  refine T.F_Lbag.ok sc_Lbag (fun vs H Q E h => ?_) (fun cdv A outer s H vs Q E hr h => ?_)
  · obtain ⟨s, ns, rfl, _⟩ := h; rfl
  · obtain ⟨s, ns, rfl, hs, hl, k⟩ := h
    refine ⟨_, (pss_one (ps_ret (pe_lst (pa_cons pe_int (pa_cons pe_int (pa_cons pe_int (pa_cons (pe_lc (own := [("_law_cell", 1)]) rfl sc_Lbag.nd (pi_list (pe_slice sl_list (pv 0) po_none (po_some pe_int))) (blkOk_by (own := [("_law_cell", 1)]) (N := ["_law_script", "_law_cell"]) (sc := defScope s_Lbag) (by decide +kernel)) (fun _ _ _ _ _ => (pg_name (i := 1) sc_Lbag.nd rfl (Or.inl rfl) (Or.inr rfl))) (fun _ _ _ _ _ => pts_nil) (fun _ _ _ _ _ => (pe_callB c_abs (by rfl) T.n_abs (by decide +kernel) (pa_cons (pv 1) pa_nil)))) pa_nil))))))), ?_⟩
    walk_at "rd"
    refine x_slLq hs ?_
    walk_at "rd"
    rename_i p1 H1 e1 f1 h1
    obtain ⟨ms, em, lm⟩ := cut_ints ns none (some 63)
    rw [em] at h1
    refine lc_lst h1 NB.ints (fun i acc _ => (∃ ks : List Int, acc = ks.map V.int) ∧ acc.length = i ∧ i ≤ ms.length) ⟨⟨[], rfl⟩, rfl, Nat.zero_le _⟩ (fun _ _ _ _ _ h => h) (fun i acc _ h => ?_) (fun x => rfl) (fun i x acc H' hx e hI kk k1 k2 => ?_) (fun p ys H2 e hp hy hI => ?_)
    · obtain ⟨⟨ks, rfl⟩, h2, h3⟩ := h
      exact ⟨NB.ints, Nat.lt_of_le_of_lt (show _ ≤ 63 by omega) (by decide)⟩
    · rw [List.getElem?_map] at hx
      cases hx' : ms[i]? with
      | none => rw [hx'] at hx; cases hx
      | some n =>
        rw [hx'] at hx
        have en : V.int n = x := Option.some.inj hx
        subst en
        have hi := (List.getElem?_eq_some_iff.mp hx').1
        walk_at "rd"
        obtain ⟨⟨ks, rfl⟩, h2, h3⟩ := hI
        exact k1 _ _ (Ex.refl _) ⟨⟨ks ++ [if n < 0 then -n else n], by rw [List.map_append]; rfl⟩, by simp [h2], hi⟩
    · obtain ⟨⟨ks, rfl⟩, h2, h3⟩ := hI
      walk_at "rd"
      rename_i p3 H3 e3 f3 h3'
      exact k _ _ ((e1.trans e).trans e3) ⟨p, _, _, _, ks, h3', e3.kp _ _ hy NB.ints, by decide, by decide, by decide, by decide⟩
def sp_Lone : Sp := fun vs H Q _ => ∃ (b s : Addr) (xs : List V), vs = [.ref b, .ref s] ∧ Bag b H ∧ H s = some (.lst xs) ∧ NB (.lst xs) ∧ 0 < xs.length ∧ xs.length < 1073741824 ∧ ∀ v H1, Ex H H1 → v ∈ xs → Q v H1
theorem u_Lone {xs : List V} (hb : Bag b H) (hs : H s = some (.lst xs)) (nb : NB (.lst xs)) (h0 : 0 < xs.length) (h1 : xs.length < 1073741824) (k : ∀ v H1, Ex H H1 → v ∈ xs → Q v H1) : sp_Lone [.ref b, .ref s] H Q E := ⟨b, s, xs, rfl, hb, hs, nb, h0, h1, k⟩
theorem ok_Lone (T : Txt K w mg a) : FnOk P w K mg base CX0 2 a.a_Lone a.fd_Lone ["_law_bag_here", "_law_some"] sp_Lone := by
  refine T.F_Lone.ok sc_Lone (fun vs H Q E h => ?_) (fun cdv A outer s H vs Q E hr h => ?_)
  · obtain ⟨b, s, xs, rfl, _⟩ := h; rfl
  · obtain ⟨b, s, xs, rfl, hb, hs, nb, h0, h1, k⟩ := h
    have G_Ltake := ok_Ltake (P := P) (base := base) T
    refine ⟨_, (pss_one (ps_ret (pe_ix ix_list (pv 1) (pe_call G_Ltake (hr.mono (by decide)) (by rfl) T.m_Ltake T.k_Ltake T.b_Ltake .nil pass0 (pa_cons (pv 0) (pa_cons (pe_callB c_len (by rfl) T.n_len PySem.boot_len (pa_cons (pv 1) pa_nil)) pa_nil))) (fun _ _ => rfl)))), ?_⟩
    walk_at "rd"
    rename_i d H1 e1 d0 d1
    have hl : d.toNat < xs.length := by omega
    refine x_ixL (by walk_at "hk") (at_nat d0 (List.getElem?_eq_getElem hl)) ?_
    exact k _ _ e1 (List.getElem_mem hl)
def sp_Lmixed : Sp := fun vs H Q _ => ∃ (b s : Addr) (ns : List Int), vs = [.ref b, .ref s] ∧ Bag b H ∧ H s = some (.lst (ns.map V.int)) ∧ ns.length ≤ 1000 ∧ ∀ p1 (ms : List Int) H1, Ex H H1 → H1 p1 = some (.lst (ms.map V.int)) → ms.Perm ns → Q (.ref p1) H1
theorem u_Lmixed {ns : List Int} (hb : Bag b H) (hs : H s = some (.lst (ns.map V.int))) (hl : ns.length ≤ 1000) (k : ∀ p1 (ms : List Int) H1, Ex H H1 → H1 p1 = some (.lst (ms.map V.int)) → ms.Perm ns → Q (.ref p1) H1) : sp_Lmixed [.ref b, .ref s] H Q E := ⟨b, s, ns, rfl, hb, hs, hl, k⟩
theorem ok_Lmixed (T : Txt K w mg a) : FnOk P w K mg base CX0 2 a.a_Lmixed a.fd_Lmixed ["_law_bag_here", "_law_things"] sp_Lmixed := by
  refine T.F_Lmixed.ok sc_Lmixed (fun vs H Q E h => ?_) (fun cdv A outer s H vs Q E hr h => ?_)
  · obtain ⟨b, s, ns, rfl, _⟩ := h; rfl
  · obtain ⟨b, s, ns, rfl, hb, hs, hl, k⟩ := h
    have G_Ltake := ok_Ltake (P := P) (base := base) T
    refine ⟨_, (pss_cons (ps_set (i := 2) sc_Lmixed.nd rfl (Or.inl rfl) (pe_lst pa_nil))
      (pss_cons (ps_for PassesOwn.never rfl (pi_list (pv 1)) (pg_name (i := 3) sc_Lmixed.nd rfl (Or.inl rfl)) (pss_one (ps_expr (pe_bm PySem.F.plainAttrs_list PySem.F.slot_list_insert PySem.F.type_list_insert c_insert (pv 2) (pa_cons (pe_call G_Ltake (hr.mono (by decide)) (by rfl) T.m_Ltake T.k_Ltake T.b_Ltake .nil pass0 (pa_cons (pv 0) (pa_cons (pe_op op_add (pe_callB c_len (by rfl) T.n_len PySem.boot_len (pa_cons (pv 2) pa_nil)) pe_int) pa_nil))) (pa_cons (pv 3) pa_nil))))))
      (pss_one (ps_ret (pv 2))))), ?_⟩
    walk_at "rd"
    rename_i l H1 e1 f1 h1
    refine for_lst (xs := ns.map V.int) (by walk_at "hk") (fun i σ H' => ∃ (ms : List Int) (v : Option V), σ = [some (.ref b), some (.ref s), some (.ref l), v] ∧ Ex H H' ∧ H' l = some (.lst (ms.map V.int)) ∧ ms.Perm (ns.take i)) ⟨[], none, rfl, e1, h1, List.Perm.refl _⟩
      (fun i σ H' _ h => ?_) (fun i x σ H' hx h => ?_) (fun σ H' h => ?_)
    · obtain ⟨_, _, _, e, _⟩ := h
      exact e.kp _ _ hs NB.ints
    · obtain ⟨ms, v, rfl, e, hL, hp⟩ := h
      rw [List.getElem?_map] at hx
      cases hx' : ns[i]? with
      | none => rw [hx'] at hx; cases hx
      | some n =>
        rw [hx'] at hx
        have en : V.int n = x := Option.some.inj hx
        subst en
        have hi := (List.getElem?_eq_some_iff.mp hx').1
        have hml : ms.length = i := by rw [hp.length_eq, List.length_take]; omega
        have lm : (ms.map V.int).length = i := by rw [List.length_map, hml]
        walk_at "rd"
        rename_i d H2 e2 d0 d1
        refine x_insert (e2.kp _ _ hL NB.ints) (by rw [lm]; exact Nat.lt_of_lt_of_le (show i < 1001 by omega) (by decide)) d0 (by omega) ?_
        refine ⟨ms.take d.toNat ++ [n] ++ ms.drop d.toNat, _, rfl, Ex.mut (e.trans e2) f1, ?_, ?_⟩
        · rw [upd_same, List.map_append, List.map_append, List.map_take, List.map_drop]
          rfl
        · rw [List.take_add_one, hx']
          refine List.Perm.trans ?_ (List.Perm.append_right _ hp)
          have e0 : ms.take d.toNat ++ ms.drop d.toNat = ms := List.take_append_drop _ _
          have : (ms.take d.toNat ++ [n] ++ ms.drop d.toNat).Perm ((ms.take d.toNat ++ ms.drop d.toNat) ++ [n]) := by
            rw [List.append_assoc, List.append_assoc]
            exact List.Perm.append_left _ List.perm_append_comm
          rw [e0] at this
          exact this
    · obtain ⟨ms, v, rfl, e, hL, hp⟩ := h
      walk_at "rd"
      refine k _ _ _ e hL ?_
      rwa [List.length_map, List.take_of_length_le (Nat.le_refl _)] at hp
def sp_Lnumber : Sp := fun vs H Q _ => ∃ (b : Addr) (m : Int), vs = [.ref b, .int m] ∧ Bag b H ∧ 0 < m ∧ m.natAbs < 2 ^ 190 ∧ ∀ n H1, Ex H H1 → n ≠ 0 → n.natAbs ≤ 4 + m.natAbs → Q (.int n) H1
theorem u_Lnumber {m : Int} (hb : Bag b H) (h0 : 0 < m) (h1 : m.natAbs < 2 ^ 190) (k : ∀ n H1, Ex H H1 → n ≠ 0 → n.natAbs ≤ 4 + m.natAbs → Q (.int n) H1) : sp_Lnumber [.ref b, .int m] H Q E := ⟨b, m, rfl, hb, h0, h1, k⟩
theorem ok_Lnumber (T : Txt K w mg a) : FnOk P w K mg base CX0 2 a.a_Lnumber a.fd_Lnumber ["_law_bag_here", "_law_most"] sp_Lnumber := by
  refine T.F_Lnumber.ok sc_Lnumber (fun vs H Q E h => ?_) (fun cdv A outer s H vs Q E hr h => ?_)
  · obtain ⟨b, m, rfl, _⟩ := h; rfl
  · obtain ⟨b, m, rfl, hb, h0, h1, k⟩ := h
    have G_Ltake := ok_Ltake (P := P) (base := base) T
    refine ⟨_, (pss_cons (ps_set (i := 2) sc_Lnumber.nd rfl (Or.inl rfl) (pe_op op_add pe_int (pe_call G_Ltake (hr.mono (by decide)) (by rfl) T.m_Ltake T.k_Ltake T.b_Ltake .nil pass0 (pa_cons (pv 0) (pa_cons (pe_ix ix_list (pe_lst (pa_cons pe_int (pa_cons pe_int (pa_cons pe_int (pa_cons (pv 1) pa_nil))))) (pe_call G_Ltake (hr.mono (by decide)) (by rfl) T.m_Ltake T.k_Ltake T.b_Ltake .nil pass0 (pa_cons (pv 0) (pa_cons pe_int pa_nil))) (fun _ _ => rfl)) pa_nil)))))
      (pss_one (ps_ret (pe_ifExp (pt_cmpR op_eq (pe_call G_Ltake (hr.mono (by decide)) (by rfl) T.m_Ltake T.k_Ltake T.b_Ltake .nil pass0 (pa_cons (pv 0) (pa_cons pe_int pa_nil))) pe_int (nomark _)) (pv 2) (pe_un un_neg (pv 2)))))), ?_⟩
    walk_at "rd"
    rename_i d H2 e2 d0 d1
    have hd : d = 0 ∨ d = 1 ∨ d = 2 ∨ d = 3 := by omega
    rcases hd with hd | hd | hd | hd
    all_goals (rw [hd]; walk_at "rd")
    all_goals exact k _ _ (by walk_at "ex") (by omega) (by omega)
end
end My

set_option Elab.async false
set_option linter.all false
set_option maxRecDepth 100000
set_option maxHeartbeats 8000000
namespace My
open PySem PySem.Spec PyProof.Rows L2 Sx
local macro_rules | `(tactic| walk_at "nb") => `(tactic| first | exact NB.tup | exact NB.ints | exact NB.len (of_decide_eq_true rfl) | exact NB.at0b rfl | exact NB.at3b rfl | exact NB.ins | exact NB.own | exact NB.frz | exact NB.refs (by assumption) | assumption)
local macro_rules | `(tactic| walk_at "ne") => `(tactic| first | assumption | exact Ne.symm (by assumption) | exact ne_of_none (by assumption) (by assumption) | exact Ne.symm (ne_of_none (by assumption) (by assumption)))
local macro_rules | `(tactic| walk_at "hk") => `(tactic| first
  | assumption
  | exact upd_same
  | (refine' (upd_ne ?hkne).trans ?hkq; (case hkne => walk_at "ne"); (case hkq => walk_at "hk"))
  | (refine' Ex.kp (by assumption) _ _ ?hkq ?hkn; (case hkq => walk_at "hk"); (case hkn => walk_at "nb")))
local macro_rules | `(tactic| walk_at "rd1") => `(tactic| first
  | ((with_reducible refine' x_var ?hx ?_); (case hx => exact rfl))
  | with_reducible refine x_c ?_
  | with_reducible refine x_op ?_
  | with_reducible refine x_un ?_
  | with_reducible refine x_I0 ?_
  | with_reducible refine x_U ?_
  | ((with_reducible refine x_I ?hc ?_); (case hc => first | exact (by decide : (0 : Int) < _) | (show (0 : Int) < _; omega) | (show CMul _ _; first | exact .inl ⟨by omega, by omega⟩ | exact .inr ⟨by omega, by omega⟩) | (show CDiv _ _; exact ⟨by omega, by omega⟩) | (show CDivW _ _; exact wide_div (b := 200) (by omega) (by assumption) (by decide) (by decide)) | (show CDivW _ _; exact wide_div (b := 31) (by omega) (by omega) (by decide) (by decide))))
  | with_reducible refine x_EqI ?_
  | with_reducible refine x_NeI ?_
  | ((with_reducible refine x_EqSt ?h ?_); (case h => decide +kernel))
  | ((with_reducible refine x_EqSf ?h ?_); (case h => decide +kernel))
  | ((with_reducible refine x_NeSt ?h ?_); (case h => decide +kernel))
  | ((with_reducible refine x_NeSf ?h ?_); (case h => decide +kernel))
  | with_reducible refine x_EqS ?_
  | with_reducible refine x_NeS ?_
  | ((with_reducible refine' x_ixL ?hq ?hi ?_); (case hq => walk_at "hk"); (case hi => first | exact rfl | assumption))
  | ((with_reducible refine' x_ixT ?hq ?hi ?_); (case hq => walk_at "hk"); (case hi => first | exact rfl | assumption))
  | with_reducible refine x_chain ?_
  | with_reducible refine x_tup ?_
  | with_reducible refine x_lst ?_
  | ((with_reducible refine x_lenNew ?hl ?_); (case hl => exact Nat.le_of_ble_eq_true rfl); intro _ _ _ _ _)
  | ((with_reducible refine x_new ?_); intro _ _ _ _ _)
  | with_reducible refine x_sl ?_
  | with_reducible refine x_noPart ?_
  | with_reducible refine x_part ?_
  | with_reducible refine x_ex_int ?_
  | with_reducible refine x_ex_bl ?_
  | with_reducible refine x_ex_2 ?_
  | with_reducible refine x_test ?_
  | with_reducible refine x_B ?_
  | with_reducible refine x_and ?_
  | with_reducible refine x_or ?_
  | with_reducible refine x_not ?_
  | with_reducible refine x_andV ?_
  | with_reducible refine x_orV ?_
  | with_reducible refine x_notV ?_
  | with_reducible refine x_ifE ?_
  | with_reducible refine x_iteT ?_
  | with_reducible refine x_iteF ?_
  | ((with_reducible refine x_iteD ?_ ?_) <;> intro _)
  | ((with_reducible refine x_iteN ?_ ?_) <;> intro _)
  | with_reducible refine x_if ?_
  | with_reducible refine x_seq ?_
  | with_reducible refine x_next ?_
  | with_reducible refine x_asg ?_
  | with_reducible refine x_gName ?_
  | ((with_reducible refine' x_gTup ?hq ?hn ?_); (case hq => walk_at "hk"); (case hn => exact rfl))
  | with_reducible refine x_gCons ?_
  | with_reducible refine x_gNil ?_
  | ((with_reducible refine' x_gConsE ?h ?_); (case h => exact rfl))
  | ((with_reducible refine x_gNilE ?h ?_); (case h => exact rfl))
  | with_reducible refine x_ret ?_
  | with_reducible refine x_drop ?_
  | with_reducible refine x_par ?_
  | ((with_reducible refine' x_aug ?hx ?_); (case hx => exact rfl))
  | with_reducible refine x_ipI ?_
  | with_reducible refine x_augS ?_
  | with_reducible refine x_gSub ?_
  | ((with_reducible refine' x_setL ?hq ?hi ?_); (case hq => walk_at "hk"); (case hi => first | exact rfl | assumption))
  | with_reducible refine x_cons ?_
  | with_reducible refine x_nil ?_
  | with_reducible refine x_CB ?_
  | with_reducible refine x_abs ?_
  | with_reducible refine x_intI ?_
  | with_reducible refine x_intB ?_
  | ((with_reducible refine' x_lenL ?hq ?_); (case hq => walk_at "hk"))
  | ((with_reducible refine' x_lenT ?hq ?_); (case hq => walk_at "hk"))
  | ((with_reducible refine x_iteTe ?h ?_); (case h => exact rfl))
  | ((with_reducible refine x_iteFe ?h ?_); (case h => exact rfl))
  | walk_at "use"
  | with_reducible refine x_callS ?_
  | ((with_reducible refine x_lc ?_))
  | ((with_reducible refine x_for ?_))
  | ((with_reducible refine x_iR1 ?_))
  | ((with_reducible refine x_iL ?_))
  | ((with_reducible refine x_iZ ?_))
  | ((with_reducible refine x_yes ?_))
  | ((with_reducible refine' x_NIDt ?hq ?_); (case hq => assumption))
  | ((with_reducible refine' x_NIDf ?hq ?_); (case hq => assumption))
  | ((with_reducible refine' x_IIDf ?hq ?_); (case hq => assumption))
  | ((with_reducible refine' x_IIDt ?hq ?_); (case hq => assumption))
  | ((with_reducible refine' x_ixDs ?hd ?hq ?_); (case hd => assumption); (case hq => assumption))
  | ((with_reducible refine x_InSt ?h ?_); (case h => decide +kernel))
  | ((with_reducible refine x_InSf ?h ?_); (case h => decide +kernel))
  | ((with_reducible refine' x_notInI ?hq ?_); (case hq => walk_at "hk"))
  | ((with_reducible refine' x_inTt ?hq ?hv ?ha ?he ?_); (case hq => walk_at "hk"); (case hv => exact rfl); (case ha => exact rfl); (case he => decide +kernel))
  | ((with_reducible refine' x_inTf ?hq ?hv ?ha ?he ?_); (case hq => walk_at "hk"); (case hv => exact rfl); (case ha => exact rfl); (case he => decide +kernel))
  | ((with_reducible refine' x_slT ?hq ?hw ?_); (case hq => walk_at "hk"); (case hw => with_unfolding_all exact of_decide_eq_true rfl))
  | ((with_reducible refine' x_slL ?hq ?_); (case hq => walk_at "hk"))
  | ((with_reducible refine' x_catT ?hq ?hr ?n1 ?n2 ?hl ?_); (case hq => walk_at "hk"); (case hr => walk_at "hk"); (case n1 => exact List.cons_ne_nil _ _); (case n2 => exact List.cons_ne_nil _ _); (case hl => exact Nat.le_of_ble_eq_true rfl))
  | ((with_reducible refine x_bm ?_))
  | ((with_reducible refine x_lstRg ?_))
  | ((with_reducible refine x_rg1 ?_))
  | ((with_reducible refine And.intro ?h ?_); (case h => exact tyL (by assumption)))
  | dsimp only)
local macro_rules | `(tactic| walk_at "use") => `(tactic| fail)
local macro_rules | `(tactic| walk_at "rd") => `(tactic| repeat' (walk_at "rd1"))
local macro_rules | `(tactic| walk_at "ex") => `(tactic| first | exact Ex.refl _ | assumption | (refine' Ex.trans ?he (by assumption); (case he => walk_at "ex")))

local macro_rules | `(tactic| walk_at "bg") => `(tactic| first | assumption | exact Ex.bag (by assumption) (by walk_at "bg"))
local macro_rules | `(tactic| walk_at "use") => `(tactic| ((with_reducible refine' u_Ltake ?hb ?h0 ?h1 ?_); (case hb => walk_at "bg"); (case h0 => omega); (case h1 => omega); intro _ _ _ _ _))
local macro_rules | `(tactic| walk_at "use") => `(tactic| ((with_reducible refine' u_Lnumber ?hb ?h0 ?h1 ?_); (case hb => walk_at "bg"); (case h0 => omega); (case h1 => omega); intro _ _ _ _ _))
section
variable {P : Program} {w : World} {K : PySem.W.Frag} {mg : Str → Option Value} {base : Heap} {a : Ad} {H H1 H' : Hp} {Q : VK} {E : XK} {p b s : Addr} {q : C}
def isFile (fs f : Int) : Prop := 0 ≤ f ∧ f < fs
def sp_Ltwo : Sp := fun vs H Q _ => ∃ (b : Addr) (fs : Int), vs = [.ref b, .int fs] ∧ Bag b H ∧ (fs = 2 ∨ fs = 3) ∧ ∀ p1 f g H1, Ex H H1 → H1 p1 = some (.tup [.int f, .int g]) → isFile fs f → isFile fs g → f ≠ g → Q (.ref p1) H1
theorem u_Ltwo {fs : Int} (hb : Bag b H) (h0 : fs = 2 ∨ fs = 3) (k : ∀ p1 f g H1, Ex H H1 → H1 p1 = some (.tup [.int f, .int g]) → isFile fs f → isFile fs g → f ≠ g → Q (.ref p1) H1) : sp_Ltwo [.ref b, .int fs] H Q E := ⟨b, fs, rfl, hb, h0, k⟩
theorem two_of {ms : List Int} {ns : List Int} {fs : Int} (hp : ms.Perm ns) (h : ∀ x ∈ ns, isFile fs x) (nd : ns.Nodup) (hl : 2 ≤ ns.length) : ∃ f g, atI (ms.map V.int) 0 = some (V.int f) ∧ atI (ms.map V.int) 1 = some (V.int g) ∧ isFile fs f ∧ isFile fs g ∧ f ≠ g := by
  have hl2 : 2 ≤ ms.length := by rw [hp.length_eq]; exact hl
  match ms, hl2 with
  | f :: g :: r, _ =>
    refine ⟨f, g, at_nat (by decide) rfl, at_nat (by decide) rfl, h f (hp.mem_iff.mp (by simp)), h g (hp.mem_iff.mp (by simp)), ?_⟩
    have nd2 : (f :: g :: r).Nodup := hp.nodup_iff.mpr nd
    intro e
    subst e
    simp at nd2
theorem ok_Ltwo (T : Txt K w mg a) : FnOk P w K mg base CX0 3 a.a_Ltwo a.fd_Ltwo ["_law_bag_here", "_law_files"] sp_Ltwo := by
  refine T.F_Ltwo.ok sc_Ltwo (fun vs H Q E h => ?_) (fun cdv A outer s H vs Q E hr h => ?_)
  · obtain ⟨b, m, rfl, _⟩ := h; rfl
  · obtain ⟨b, fs, rfl, hb, hfs, k⟩ := h
    have G_Lmixed := ok_Lmixed (P := P) (base := base) T
    refine ⟨_, (pss_cons (ps_set (i := 2) sc_Ltwo.nd rfl (Or.inl rfl) (pe_call G_Lmixed (hr.mono (by decide)) (by rfl) T.m_Lmixed T.k_Lmixed T.b_Lmixed .nil pass0 (pa_cons (pv 0) (pa_cons (pe_listRg rfl (by rfl) T.n_list (prg_1 (by rfl) T.n_range (pv 1))) pa_nil))))
      (pss_one (ps_ret (pe_tup (pa_cons (pe_ix ix_list (pv 2) pe_int (fun _ _ => rfl)) (pa_cons (pe_ix ix_list (pv 2) pe_int (fun _ _ => rfl)) pa_nil)))))), ?_⟩
    walk_at "rd"
    refine ⟨RgOk.of_le (by omega) (by omega) (by omega) (by omega), x_new ?_⟩
    intro l H1 e1 f1 h1
    have nsx : ∃ ns : List Int, H1 l = some (.lst (ns.map V.int)) ∧ ns.length ≤ 1000 ∧ (∀ x ∈ ns, isFile fs x) ∧ ns.Nodup ∧ 2 ≤ ns.length := by
      rcases hfs with e | e
      · rw [e] at h1
        exact ⟨[0, 1], h1, by decide, by rw [e]; intro x hx; simp at hx; unfold isFile; omega, by decide, by decide⟩
      · rw [e] at h1
        exact ⟨[0, 1, 2], h1, by decide, by rw [e]; intro x hx; simp at hx; unfold isFile; omega, by decide, by decide⟩
    obtain ⟨ns, hs, i0, i1, i2, i3⟩ := nsx
    walk_at "rd"
    refine u_Lmixed (by walk_at "bg") hs i0 fun p2 ms H2 e2 h2 pm => ?_
    obtain ⟨f, g, a1, a2, a3, a4, a5⟩ := two_of pm i1 i2 i3
    walk_at "rd"
    rename_i h3
    exact k _ _ _ _ (by walk_at "ex") h3 a3 a4 a5
def C.word : C → Str
  | .all _ => "all" | .up _ _ => "up" | .swap _ _ => "swap" | .wheel _ _ _ => "wheel" | .about => "about" | .front _ _ => "front" | .halve => "halve" | .pair => "pair" | .others => "others" | .fill => "fill"
/-- a call for so many files -/
def C.ok (q : C) (fs : Int) : Prop := match q with
  | .all k => k ≠ 0
  | .up f k => isFile fs f ∧ k ≠ 0
  | .swap f g => isFile fs f ∧ isFile fs g ∧ f ≠ g
  | .wheel f g k => isFile fs f ∧ isFile fs g ∧ f ≠ g ∧ k ≠ 0
  | .front f g => isFile fs f ∧ isFile fs g ∧ f ≠ g
  | _ => True
/-- the size of its k -/
def C.kAbs : C → Nat
  | .all k => k.natAbs | .up _ k => k.natAbs | .wheel _ _ k => k.natAbs | _ => 0
def ten : List Str := ["all", "up", "swap", "wheel", "about", "front", "halve", "pair", "others", "fill"]
def sp_Lcall : Sp := fun vs H Q _ => ∃ (b s : Addr) (fs m : Int) (ks : List Str), vs = [.ref b, .int fs, .ref s, .int m] ∧ Bag b H ∧ (fs = 2 ∨ fs = 3) ∧ H s = some (.lst (ks.map V.str)) ∧ 0 < ks.length ∧ ks.length ≤ 1000 ∧ (∀ x ∈ ks, x ∈ ten) ∧ 0 < m ∧ m.natAbs < 2 ^ 190 ∧
  ∀ p1 (q : C) H1, Ex H H1 → H1 p1 = some (.tup q.vals) → q.ok fs → q.kAbs ≤ 4 + m.natAbs → Q (.ref p1) H1
theorem u_Lcall {fs m : Int} (ks : List Str) (hb : Bag b H) (h0 : fs = 2 ∨ fs = 3) (h1 : H s = some (.lst (ks.map V.str))) (h2 : 0 < ks.length) (h3 : ks.length ≤ 1000) (h4 : ∀ x ∈ ks, x ∈ ten) (h5 : 0 < m) (h6 : m.natAbs < 2 ^ 190) (k : ∀ p1 (q : C) H1, Ex H H1 → H1 p1 = some (.tup q.vals) → q.ok fs → q.kAbs ≤ 4 + m.natAbs → Q (.ref p1) H1) :
    sp_Lcall [.ref b, .int fs, .ref s, .int m] H Q E := ⟨b, s, fs, m, ks, rfl, hb, h0, h1, h2, h3, h4, h5, h6, k⟩
theorem NB.strs {ks : List Str} : NB (.lst (ks.map V.str)) := by
  cases ks with
  | nil => exact NB.len (by decide)
  | cons x r => exact NB.at0b rfl
local macro_rules | `(tactic| walk_at "nb") => `(tactic| exact NB.strs)
local macro_rules | `(tactic| walk_at "use") => `(tactic| ((with_reducible refine' u_Ltwo ?hb ?h0 ?_); (case hb => walk_at "bg"); (case h0 => assumption); intro _ _ _ _ _ _ _ _ _))
theorem in_sf {x : Str} (hx : x ∈ ten) : inV (.str x) [.str "swap", .str "front"] = decide (x = "swap" ∨ x = "front") := by
  simp only [ten, List.mem_cons, List.not_mem_nil, or_false] at hx
  rcases hx with rfl | rfl | rfl | rfl | rfl | rfl | rfl | rfl | rfl | rfl <;> decide +kernel
theorem x_inSF {x : Str} {l : Addr} (hx : x ∈ ten) (h : H l = some (.tup [.str "swap", .str "front"])) (k : Q (.bl (decide (x = "swap" ∨ x = "front"))) H) : rIn K false (.str x) (.ref l) H Q := ⟨l, _, rfl, .inr (SqT.of h), rfl, rfl, by rw [if_neg Bool.false_ne_true, in_sf hx]; exact k⟩
theorem ok_Lcall (T : Txt K w mg a) : FnOk P w K mg base CX0 4 a.a_Lcall a.fd_Lcall ["_law_bag_here", "_law_files", "_law_kinds", "_law_most"] sp_Lcall := by
  refine T.F_Lcall.ok sc_Lcall (fun vs H Q E h => ?_) (fun cdv A outer s H vs Q E hr h => ?_)
  · obtain ⟨b, s, fs, m, ks, rfl, _⟩ := h; rfl
  · obtain ⟨b, s, fs, m, ks, rfl, hb, hfs, hs, l0, l1, ht, m0, m1, k⟩ := h
    have G_Ltake := ok_Ltake (P := P) (base := base) T
    have G_Lone := ok_Lone (P := P) (base := base) T
    have G_Lnumber := ok_Lnumber (P := P) (base := base) T
    have G_Ltwo := ok_Ltwo (P := P) (base := base) T
    have f0 : 0 < fs := by omega
    have f1 : fs < 1000 := by omega
    refine ⟨_, (pss_cons (ps_set (i := 4) sc_Lcall.nd rfl (Or.inl rfl) (pe_call G_Lone (hr.mono (by decide)) (by rfl) T.m_Lone T.k_Lone T.b_Lone .nil pass0 (pa_cons (pv 0) (pa_cons (pv 2) pa_nil))))
      (pss_cons (ps_if (pt_cmpR op_eq (pv 4) pe_str (nomark _)) (pss_one (ps_ret (pe_tup (pa_cons pe_str (pa_cons (pe_call G_Lnumber (hr.mono (by decide)) (by rfl) T.m_Lnumber T.k_Lnumber T.b_Lnumber .nil pass0 (pa_cons (pv 0) (pa_cons (pv 3) pa_nil))) pa_nil))))) pss_nil)
      (pss_cons (ps_if (pt_cmpR op_eq (pv 4) pe_str (nomark _)) (pss_one (ps_ret (pe_tup (pa_cons pe_str (pa_cons (pe_call G_Ltake (hr.mono (by decide)) (by rfl) T.m_Ltake T.k_Ltake T.b_Ltake .nil pass0 (pa_cons (pv 0) (pa_cons (pv 1) pa_nil))) (pa_cons (pe_call G_Lnumber (hr.mono (by decide)) (by rfl) T.m_Lnumber T.k_Lnumber T.b_Lnumber .nil pass0 (pa_cons (pv 0) (pa_cons (pv 3) pa_nil))) pa_nil)))))) pss_nil)
      (pss_cons (ps_if (pt_cmpR op_in_seq (pv 4) (pe_tup (pa_cons pe_str (pa_cons pe_str pa_nil))) (by rfl)) (pss_one (ps_ret (pe_op op_catT (pe_tup (pa_cons (pv 4) pa_nil)) (pe_call G_Ltwo (hr.mono (by decide)) (by rfl) T.m_Ltwo T.k_Ltwo T.b_Ltwo .nil pass0 (pa_cons (pv 0) (pa_cons (pv 1) pa_nil)))))) pss_nil)
      (pss_cons (ps_if (pt_cmpR op_eq (pv 4) pe_str (nomark _)) (pss_one (ps_ret (pe_op op_catT (pe_op op_catT (pe_tup (pa_cons pe_str pa_nil)) (pe_call G_Ltwo (hr.mono (by decide)) (by rfl) T.m_Ltwo T.k_Ltwo T.b_Ltwo .nil pass0 (pa_cons (pv 0) (pa_cons (pv 1) pa_nil)))) (pe_tup (pa_cons (pe_call G_Lnumber (hr.mono (by decide)) (by rfl) T.m_Lnumber T.k_Lnumber T.b_Lnumber .nil pass0 (pa_cons (pv 0) (pa_cons (pv 3) pa_nil))) pa_nil))))) pss_nil)
      (pss_one (ps_ret (pe_tup (pa_cons (pv 4) pa_nil))))))))), ?_⟩
    walk_at "rd"
    refine u_Lone hb hs NB.strs (by rw [List.length_map]; exact l0) (by rw [List.length_map]; omega) fun v H1 e1 hv => ?_
    obtain ⟨x, hx, rfl⟩ := List.mem_map.mp hv
    have hx := ht x hx
    walk_at "rd"
    · rename_i h
      exact k _ (.all _) _ (by walk_at "ex") h (by assumption) (by assumption)
    · rename_i h
      exact k _ (.up _ _) _ (by walk_at "ex") h ⟨⟨by assumption, by assumption⟩, by assumption⟩ (by assumption)
    rename_i nall nup _ _ _ _ hl
    refine x_inSF hx hl ?_
    walk_at "rd"
    · rename_i h
      have c : x = "swap" ∨ x = "front" := by assumption
      rcases c with rfl | rfl
      · exact k _ (.swap _ _) _ (by walk_at "ex") h ⟨by assumption, by assumption, by assumption⟩ (Nat.zero_le _)
      · exact k _ (.front _ _) _ (by walk_at "ex") h ⟨by assumption, by assumption, by assumption⟩ (Nat.zero_le _)
    · rename_i h
      exact k _ (.wheel _ _ _) _ (by walk_at "ex") h ⟨by assumption, by assumption, by assumption, by assumption⟩ (by assumption)
    · rename_i h
      have c : ¬ (x = "swap" ∨ x = "front") := by assumption
      have c2 : ¬ x = "wheel" := by assumption
      simp only [ten, List.mem_cons, List.not_mem_nil, or_false] at hx
      rcases hx with rfl | rfl | rfl | rfl | rfl | rfl | rfl | rfl | rfl | rfl
      · exact absurd rfl nall
      · exact absurd rfl nup
      · exact absurd (.inl rfl) c
      · exact absurd rfl c2
      · exact k _ .about _ (by walk_at "ex") h trivial (Nat.zero_le _)
      · exact absurd (.inr rfl) c
      · exact k _ .halve _ (by walk_at "ex") h trivial (Nat.zero_le _)
      · exact k _ .pair _ (by walk_at "ex") h trivial (Nat.zero_le _)
      · exact k _ .others _ (by walk_at "ex") h trivial (Nat.zero_le _)
      · exact k _ .fill _ (by walk_at "ex") h trivial (Nat.zero_le _)
def sp_Lall_kinds : Sp := fun vs H Q _ => vs = [] ∧ ∀ p1 H1, Ex H H1 → H1 p1 = some (.lst (ten.map V.str)) → Q (.ref p1) H1
theorem u_Lall_kinds (k : ∀ p1 H1, Ex H H1 → H1 p1 = some (.lst (ten.map V.str)) → Q (.ref p1) H1) : sp_Lall_kinds [] H Q E := ⟨rfl, k⟩
theorem ok_Lall_kinds (T : Txt K w mg a) : FnOk P w K mg base CX0 1 a.a_Lall_kinds a.fd_Lall_kinds [] sp_Lall_kinds := by
  refine T.F_Lall_kinds.ok sc_Lall_kinds (fun vs H Q E h => ?_) (fun cdv A outer s H vs Q E hr h => ?_)
  · obtain ⟨rfl, _⟩ := h; rfl
  · obtain ⟨rfl, k⟩ := h
    refine ⟨_, (pss_one (ps_ret (pe_lst (pa_cons pe_str (pa_cons pe_str (pa_cons pe_str (pa_cons pe_str (pa_cons pe_str (pa_cons pe_str (pa_cons pe_str (pa_cons pe_str (pa_cons pe_str (pa_cons pe_str pa_nil))))))))))))), ?_⟩
    walk_at "rd"
    rename_i h
    exact k _ _ (by walk_at "ex") h
end
end My

set_option Elab.async false
set_option linter.all false
set_option maxRecDepth 100000
set_option maxHeartbeats 8000000
namespace My
open PySem PySem.Spec PyProof.Rows L2 Sx
local macro_rules | `(tactic| walk_at "nb") => `(tactic| first | exact NB.tup | exact NB.ints | exact NB.len (of_decide_eq_true rfl) | exact NB.at0b rfl | exact NB.at3b rfl | exact NB.ins | exact NB.own | exact NB.frz | exact NB.refs (by assumption) | assumption)
local macro_rules | `(tactic| walk_at "ne") => `(tactic| first | assumption | exact Ne.symm (by assumption) | exact ne_of_none (by assumption) (by assumption) | exact Ne.symm (ne_of_none (by assumption) (by assumption)))
local macro_rules | `(tactic| walk_at "hk") => `(tactic| first
  | assumption
  | exact upd_same
  | (refine' (upd_ne ?hkne).trans ?hkq; (case hkne => walk_at "ne"); (case hkq => walk_at "hk"))
  | (refine' Ex.kp (by assumption) _ _ ?hkq ?hkn; (case hkq => walk_at "hk"); (case hkn => walk_at "nb")))
local macro_rules | `(tactic| walk_at "rd1") => `(tactic| first
  | ((with_reducible refine' x_var ?hx ?_); (case hx => exact rfl))
  | with_reducible refine x_c ?_
  | with_reducible refine x_op ?_
  | with_reducible refine x_un ?_
  | with_reducible refine x_I0 ?_
  | with_reducible refine x_U ?_
  | ((with_reducible refine x_I ?hc ?_); (case hc => first | exact (by decide : (0 : Int) < _) | (show (0 : Int) < _; omega) | (show CMul _ _; first | exact .inl ⟨by omega, by omega⟩ | exact .inr ⟨by omega, by omega⟩) | (show CDiv _ _; exact ⟨by omega, by omega⟩) | (show CDivW _ _; exact wide_div (b := 200) (by omega) (by assumption) (by decide) (by decide)) | (show CDivW _ _; exact wide_div (b := 31) (by omega) (by omega) (by decide) (by decide))))
  | with_reducible refine x_EqI ?_
  | with_reducible refine x_NeI ?_
  | ((with_reducible refine x_EqSt ?h ?_); (case h => decide +kernel))
  | ((with_reducible refine x_EqSf ?h ?_); (case h => decide +kernel))
  | ((with_reducible refine x_NeSt ?h ?_); (case h => decide +kernel))
  | ((with_reducible refine x_NeSf ?h ?_); (case h => decide +kernel))
  | with_reducible refine x_EqS ?_
  | with_reducible refine x_NeS ?_
  | ((with_reducible refine' x_ixL ?hq ?hi ?_); (case hq => walk_at "hk"); (case hi => first | exact rfl | assumption))
  | ((with_reducible refine' x_ixT ?hq ?hi ?_); (case hq => walk_at "hk"); (case hi => first | exact rfl | assumption))
  | with_reducible refine x_chain ?_
  | with_reducible refine x_tup ?_
  | with_reducible refine x_lst ?_
  | ((with_reducible refine x_lenNew ?hl ?_); (case hl => exact Nat.le_of_ble_eq_true rfl); intro _ _ _ _ _)
  | ((with_reducible refine x_new ?_); intro _ _ _ _ _)
  | with_reducible refine x_sl ?_
  | with_reducible refine x_noPart ?_
  | with_reducible refine x_part ?_
  | with_reducible refine x_ex_int ?_
  | with_reducible refine x_ex_bl ?_
  | with_reducible refine x_ex_2 ?_
  | with_reducible refine x_test ?_
  | with_reducible refine x_B ?_
  | with_reducible refine x_and ?_
  | with_reducible refine x_or ?_
  | with_reducible refine x_not ?_
  | with_reducible refine x_andV ?_
  | with_reducible refine x_orV ?_
  | with_reducible refine x_notV ?_
  | with_reducible refine x_ifE ?_
  | with_reducible refine x_iteT ?_
  | with_reducible refine x_iteF ?_
  | ((with_reducible refine x_iteD ?_ ?_) <;> intro _)
  | ((with_reducible refine x_iteN ?_ ?_) <;> intro _)
  | with_reducible refine x_if ?_
  | with_reducible refine x_seq ?_
  | with_reducible refine x_next ?_
  | with_reducible refine x_asg ?_
  | with_reducible refine x_gName ?_
  | ((with_reducible refine' x_gTup ?hq ?hn ?_); (case hq => walk_at "hk"); (case hn => exact rfl))
  | with_reducible refine x_gCons ?_
  | with_reducible refine x_gNil ?_
  | ((with_reducible refine' x_gConsE ?h ?_); (case h => exact rfl))
  | ((with_reducible refine x_gNilE ?h ?_); (case h => exact rfl))
  | with_reducible refine x_ret ?_
  | with_reducible refine x_drop ?_
  | with_reducible refine x_par ?_
  | ((with_reducible refine' x_aug ?hx ?_); (case hx => exact rfl))
  | with_reducible refine x_ipI ?_
  | with_reducible refine x_augS ?_
  | with_reducible refine x_gSub ?_
  | ((with_reducible refine' x_setL ?hq ?hi ?_); (case hq => walk_at "hk"); (case hi => first | exact rfl | assumption))
  | with_reducible refine x_cons ?_
  | with_reducible refine x_nil ?_
  | with_reducible refine x_CB ?_
  | with_reducible refine x_abs ?_
  | with_reducible refine x_intI ?_
  | with_reducible refine x_intB ?_
  | ((with_reducible refine' x_lenL ?hq ?_); (case hq => walk_at "hk"))
  | ((with_reducible refine' x_lenT ?hq ?_); (case hq => walk_at "hk"))
  | ((with_reducible refine x_iteTe ?h ?_); (case h => exact rfl))
  | ((with_reducible refine x_iteFe ?h ?_); (case h => exact rfl))
  | walk_at "use"
  | with_reducible refine x_callS ?_
  | ((with_reducible refine x_lc ?_))
  | ((with_reducible refine x_for ?_))
  | ((with_reducible refine x_iR1 ?_))
  | ((with_reducible refine x_iL ?_))
  | ((with_reducible refine x_iZ ?_))
  | ((with_reducible refine x_yes ?_))
  | ((with_reducible refine' x_NIDt ?hq ?_); (case hq => assumption))
  | ((with_reducible refine' x_NIDf ?hq ?_); (case hq => assumption))
  | ((with_reducible refine' x_IIDf ?hq ?_); (case hq => assumption))
  | ((with_reducible refine' x_IIDt ?hq ?_); (case hq => assumption))
  | ((with_reducible refine' x_ixDs ?hd ?hq ?_); (case hd => assumption); (case hq => assumption))
  | ((with_reducible refine x_InSt ?h ?_); (case h => decide +kernel))
  | ((with_reducible refine x_InSf ?h ?_); (case h => decide +kernel))
  | ((with_reducible refine' x_notInI ?hq ?_); (case hq => walk_at "hk"))
  | ((with_reducible refine' x_inTt ?hq ?hv ?ha ?he ?_); (case hq => walk_at "hk"); (case hv => exact rfl); (case ha => exact rfl); (case he => decide +kernel))
  | ((with_reducible refine' x_inTf ?hq ?hv ?ha ?he ?_); (case hq => walk_at "hk"); (case hv => exact rfl); (case ha => exact rfl); (case he => decide +kernel))
  | ((with_reducible refine' x_slT ?hq ?hw ?_); (case hq => walk_at "hk"); (case hw => with_unfolding_all exact of_decide_eq_true rfl))
  | ((with_reducible refine' x_slL ?hq ?_); (case hq => walk_at "hk"))
  | ((with_reducible refine' x_catT ?hq ?hr ?n1 ?n2 ?hl ?_); (case hq => walk_at "hk"); (case hr => walk_at "hk"); (case n1 => exact List.cons_ne_nil _ _); (case n2 => exact List.cons_ne_nil _ _); (case hl => exact Nat.le_of_ble_eq_true rfl))
  | ((with_reducible refine x_bm ?_))
  | ((with_reducible refine x_lstRg ?_))
  | ((with_reducible refine x_rg1 ?_))
  | ((with_reducible refine And.intro ?h ?_); (case h => exact tyL (by assumption)))
  | dsimp only)
local macro_rules | `(tactic| walk_at "use") => `(tactic| fail)
local macro_rules | `(tactic| walk_at "rd") => `(tactic| repeat' (walk_at "rd1"))
local macro_rules | `(tactic| walk_at "ex") => `(tactic| first | exact Ex.refl _ | assumption | (refine' Ex.trans ?he (by assumption); (case he => walk_at "ex")))
local macro_rules | `(tactic| walk_at "rd1") => `(tactic| first
  | ((with_reducible refine x_iteDf ?h ?_); (case h => exact rfl))
  | ((with_reducible refine x_iteDt ?h ?_); (case h => exact rfl))
  | ((with_reducible refine x_iteNf ?h ?_); (case h => exact rfl))
  | ((with_reducible refine x_iteNt ?h ?_); (case h => exact rfl))
  | ((with_reducible refine x_isiI (r := true) ?h ?_); (case h => decide +kernel))
  | ((with_reducible refine x_isiI (r := false) ?h ?_); (case h => decide +kernel))
  | ((with_reducible refine x_isiS (r := true) ?h ?_); (case h => decide +kernel))
  | ((with_reducible refine x_isiS (r := false) ?h ?_); (case h => decide +kernel))
  | ((with_reducible refine x_isiB (r := true) ?h ?_); (case h => decide +kernel))
  | ((with_reducible refine x_isiB (r := false) ?h ?_); (case h => decide +kernel))
  | ((with_reducible refine' x_isiT (r := true) ?hp ?h ?_); (case hp => walk_at "hk"); (case h => decide +kernel))
  | ((with_reducible refine' x_isiT (r := false) ?hp ?h ?_); (case hp => walk_at "hk"); (case h => decide +kernel))
  | ((with_reducible refine' x_isiL (r := true) ?hp ?h ?_); (case hp => walk_at "hk"); (case h => decide +kernel))
  | ((with_reducible refine' x_isiL (r := false) ?hp ?h ?_); (case hp => walk_at "hk"); (case h => decide +kernel))
  | ((with_reducible refine' x_isi2L ?hp ?hl ?_); (case hp => walk_at "hk"); (case hl => walk_at "hk"))
  | ((with_reducible refine' x_isi2T ?hp ?hl ?_); (case hp => walk_at "hk"); (case hl => walk_at "hk"))
  | ((with_reducible refine' x_tupOfL ?hq ?_); (case hq => walk_at "hk"))
  | ((with_reducible refine' x_tupOfT ?hq ?_); (case hq => walk_at "hk"))
  | ((with_reducible refine x_lenS ?h ?_); (case h => exact Nat.le_of_ble_eq_true rfl))
  | ((with_reducible refine' x_all ?hq ?_); (case hq => walk_at "hk"))
  | with_reducible refine x_lenSet ?_)

section
variable {P : Program} {w : World} {K : PySem.W.Frag} {mg : Str → Option Value} {base : Heap} {a : Ad} {H : Hp} {Q : VK} {E : XK} {p b : Addr} {q : C}
/-! is_integer, of an int -/
def sp_is_integer : Sp := fun vs H Q _ => ∃ i : Int, vs = [.int i] ∧ Q (.bl true) H
theorem u_is_integer {i : Int} (k : Q (.bl true) H) : sp_is_integer [.int i] H Q E := ⟨i, rfl, k⟩
theorem ok_is_integer (T : Txt K w mg a) : FnOk P w K mg base CX0 1 a.a_is_integer a.fd_is_integer ["thing"] sp_is_integer := by
  refine T.F_is_integer.ok sc_is_integer (fun vs H Q E h => ?_) (fun cdv A outer s H vs Q E hr h => ?_)
  · obtain ⟨i, rfl, _⟩ := h; rfl
  · obtain ⟨i, rfl, k⟩ := h
    refine ⟨_, (pss_one (ps_ret (pe_and (pe_callB call_isi (by rfl) T.n_isinstance (by decide +kernel) (pa_cons (pv 0) (pa_cons (pe_bltn (v := .ty "int") (u := .type "int") (by rfl) T.n_int (by decide +kernel) rfl) pa_nil))) (pe_one (pe_not (pe_callB call_isi (by rfl) T.n_isinstance (by decide +kernel) (pa_cons (pv 0) (pa_cons (pe_bltn (v := .ty "bool") (u := .type "bool") (by rfl) T.n_bool (by decide +kernel) rfl) pa_nil)))))))), ?_⟩
    walk_at "rd"
    exact k
local macro_rules | `(tactic| walk_at "use") => `(tactic| with_reducible refine u_is_integer ?_)
/-! is_files, of an int -/
def sp_is_files : Sp := fun vs H Q _ => ∃ i : Int, vs = [.int i] ∧ Q (.bl (decide (2 ≤ i ∧ i ≤ 3))) H
theorem u_is_files {i : Int} (k : Q (.bl (decide (2 ≤ i ∧ i ≤ 3))) H) : sp_is_files [.int i] H Q E := ⟨i, rfl, k⟩
theorem ok_is_files (T : Txt K w mg a) : FnOk P w K mg base CX0 2 a.a_is_files a.fd_is_files ["thing"] sp_is_files := by
  refine T.F_is_files.ok sc_is_files (fun vs H Q E h => ?_) (fun cdv A outer s H vs Q E hr h => ?_)
  · obtain ⟨i, rfl, _⟩ := h; rfl
  · obtain ⟨i, rfl, k⟩ := h
    have G_is_integer := ok_is_integer (P := P) (base := base) T
    refine ⟨_, (pss_one (ps_ret (pe_and (pe_call G_is_integer (hr.mono (by decide)) (by rfl) T.m_is_integer T.k_is_integer T.b_is_integer .nil pass0 (pa_cons (pv 0) pa_nil)) (pe_one (pe_chain op_le op_le pe_int (pv 0) pe_int))))), ?_⟩
    walk_at "rd"
    · rename_i h; simpa [h] using k
    · rename_i h; simpa [h] using k
local macro_rules | `(tactic| walk_at "use") => `(tactic| with_reducible refine u_is_files ?_)
/-! is_index, of ints -/
def sp_is_index : Sp := fun vs H Q _ => ∃ i n : Int, vs = [.int i, .int n] ∧ Q (.bl (decide (0 ≤ i ∧ i < n))) H
theorem u_is_index {i n : Int} (k : Q (.bl (decide (0 ≤ i ∧ i < n))) H) : sp_is_index [.int i, .int n] H Q E := ⟨i, n, rfl, k⟩
theorem ok_is_index (T : Txt K w mg a) : FnOk P w K mg base CX0 2 a.a_is_index a.fd_is_index ["thing", "many"] sp_is_index := by
  refine T.F_is_index.ok sc_is_index (fun vs H Q E h => ?_) (fun cdv A outer s H vs Q E hr h => ?_)
  · obtain ⟨i, n, rfl, _⟩ := h; rfl
  · obtain ⟨i, n, rfl, k⟩ := h
    have G_is_integer := ok_is_integer (P := P) (base := base) T
    refine ⟨_, (pss_one (ps_ret (pe_and (pe_call G_is_integer (hr.mono (by decide)) (by rfl) T.m_is_integer T.k_is_integer T.b_is_integer .nil pass0 (pa_cons (pv 0) pa_nil)) (pe_one (pe_chain op_le op_lt pe_int (pv 0) (pv 1)))))), ?_⟩
    walk_at "rd"
    · rename_i h; simpa [h] using k
    · rename_i h; simpa [h] using k
local macro_rules | `(tactic| walk_at "use") => `(tactic| with_reducible refine u_is_index ?_)
/-! is_part, of an int -/
def partOk (files : Int) (part : Str) (i : Int) : Bool := if part = "f" then decide (0 ≤ i ∧ i < files) else !decide (i = 0)
def sp_is_part : Sp := fun vs H Q _ => ∃ (files : Int) (part : Str) (i : Int), vs = [.int files, .str part, .int i] ∧ Q (.bl (partOk files part i)) H
theorem u_is_part {files i : Int} {part : Str} (k : Q (.bl (partOk files part i)) H) : sp_is_part [.int files, .str part, .int i] H Q E := ⟨files, part, i, rfl, k⟩
theorem ok_is_part (T : Txt K w mg a) : FnOk P w K mg base CX0 3 a.a_is_part a.fd_is_part ["files", "part", "item"] sp_is_part := by
  refine T.F_is_part.ok sc_is_part (fun vs H Q E h => ?_) (fun cdv A outer s H vs Q E hr h => ?_)
  · obtain ⟨f, x, i, rfl, _⟩ := h; rfl
  · obtain ⟨f, x, i, rfl, k⟩ := h
    have G_is_integer := ok_is_integer (P := P) (base := base) T
    have G_is_index := ok_is_index (P := P) (base := base) T
    unfold partOk at k
    refine ⟨_, (pss_cons (ps_if (pt_cmpR op_eq (pv 1) pe_str (nomark _)) (pss_one (ps_ret (pe_call G_is_index (hr.mono (by decide)) (by rfl) T.m_is_index T.k_is_index T.b_is_index .nil pass0 (pa_cons (pv 2) (pa_cons (pv 0) pa_nil))))) pss_nil)
      (pss_one (ps_ret (pe_and (pe_call G_is_integer (hr.mono (by decide)) (by rfl) T.m_is_integer T.k_is_integer T.b_is_integer .nil pass0 (pa_cons (pv 2) pa_nil)) (pe_one (pe_cmpR op_ne (pv 2) pe_int (nomark _))))))), ?_⟩
    walk_at "rd"
    · rename_i h; rw [if_pos h] at k; exact k
    · rename_i h; rw [if_neg h] at k; exact k
end
end My

set_option Elab.async false
set_option linter.all false
set_option maxRecDepth 100000
set_option maxHeartbeats 8000000
namespace My
open PySem PySem.Spec PyProof.Rows L2 Sx
local macro_rules | `(tactic| walk_at "nb") => `(tactic| first | exact NB.tup | exact NB.ints | exact NB.len (of_decide_eq_true rfl) | exact NB.at0b rfl | exact NB.at3b rfl | exact NB.ins | exact NB.own | exact NB.frz | exact NB.refs (by assumption) | assumption)
local macro_rules | `(tactic| walk_at "ne") => `(tactic| first | assumption | exact Ne.symm (by assumption) | exact ne_of_none (by assumption) (by assumption) | exact Ne.symm (ne_of_none (by assumption) (by assumption)))
local macro_rules | `(tactic| walk_at "hk") => `(tactic| first
  | assumption
  | exact upd_same
  | (refine' (upd_ne ?hkne).trans ?hkq; (case hkne => walk_at "ne"); (case hkq => walk_at "hk"))
  | (refine' Ex.kp (by assumption) _ _ ?hkq ?hkn; (case hkq => walk_at "hk"); (case hkn => walk_at "nb")))
local macro_rules | `(tactic| walk_at "rd1") => `(tactic| first
  | ((with_reducible refine' x_var ?hx ?_); (case hx => exact rfl))
  | with_reducible refine x_c ?_
  | with_reducible refine x_op ?_
  | with_reducible refine x_un ?_
  | with_reducible refine x_I0 ?_
  | with_reducible refine x_U ?_
  | ((with_reducible refine x_I ?hc ?_); (case hc => first | exact (by decide : (0 : Int) < _) | (show (0 : Int) < _; omega) | (show CMul _ _; first | exact .inl ⟨by omega, by omega⟩ | exact .inr ⟨by omega, by omega⟩) | (show CDiv _ _; exact ⟨by omega, by omega⟩) | (show CDivW _ _; exact wide_div (b := 200) (by omega) (by assumption) (by decide) (by decide)) | (show CDivW _ _; exact wide_div (b := 31) (by omega) (by omega) (by decide) (by decide))))
  | with_reducible refine x_EqI ?_
  | with_reducible refine x_NeI ?_
  | ((with_reducible refine x_EqSt ?h ?_); (case h => decide +kernel))
  | ((with_reducible refine x_EqSf ?h ?_); (case h => decide +kernel))
  | ((with_reducible refine x_NeSt ?h ?_); (case h => decide +kernel))
  | ((with_reducible refine x_NeSf ?h ?_); (case h => decide +kernel))
  | with_reducible refine x_EqS ?_
  | with_reducible refine x_NeS ?_
  | ((with_reducible refine' x_ixL ?hq ?hi ?_); (case hq => walk_at "hk"); (case hi => first | exact rfl | assumption))
  | ((with_reducible refine' x_ixT ?hq ?hi ?_); (case hq => walk_at "hk"); (case hi => first | exact rfl | assumption))
  | with_reducible refine x_chain ?_
  | with_reducible refine x_tup ?_
  | with_reducible refine x_lst ?_
  | ((with_reducible refine x_lenNew ?hl ?_); (case hl => exact Nat.le_of_ble_eq_true rfl); intro _ _ _ _ _)
  | ((with_reducible refine x_new ?_); intro _ _ _ _ _)
  | with_reducible refine x_sl ?_
  | with_reducible refine x_noPart ?_
  | with_reducible refine x_part ?_
  | with_reducible refine x_ex_int ?_
  | with_reducible refine x_ex_bl ?_
  | with_reducible refine x_ex_2 ?_
  | with_reducible refine x_test ?_
  | with_reducible refine x_B ?_
  | with_reducible refine x_and ?_
  | with_reducible refine x_or ?_
  | with_reducible refine x_not ?_
  | with_reducible refine x_andV ?_
  | with_reducible refine x_orV ?_
  | with_reducible refine x_notV ?_
  | with_reducible refine x_ifE ?_
  | with_reducible refine x_iteT ?_
  | with_reducible refine x_iteF ?_
  | ((with_reducible refine x_iteD ?_ ?_) <;> intro _)
  | ((with_reducible refine x_iteN ?_ ?_) <;> intro _)
  | with_reducible refine x_if ?_
  | with_reducible refine x_seq ?_
  | with_reducible refine x_next ?_
  | with_reducible refine x_asg ?_
  | with_reducible refine x_gName ?_
  | ((with_reducible refine' x_gTup ?hq ?hn ?_); (case hq => walk_at "hk"); (case hn => exact rfl))
  | with_reducible refine x_gCons ?_
  | with_reducible refine x_gNil ?_
  | ((with_reducible refine' x_gConsE ?h ?_); (case h => exact rfl))
  | ((with_reducible refine x_gNilE ?h ?_); (case h => exact rfl))
  | with_reducible refine x_ret ?_
  | with_reducible refine x_drop ?_
  | with_reducible refine x_par ?_
  | ((with_reducible refine' x_aug ?hx ?_); (case hx => exact rfl))
  | with_reducible refine x_ipI ?_
  | with_reducible refine x_augS ?_
  | with_reducible refine x_gSub ?_
  | ((with_reducible refine' x_setL ?hq ?hi ?_); (case hq => walk_at "hk"); (case hi => first | exact rfl | assumption))
  | with_reducible refine x_cons ?_
  | with_reducible refine x_nil ?_
  | with_reducible refine x_CB ?_
  | with_reducible refine x_abs ?_
  | with_reducible refine x_intI ?_
  | with_reducible refine x_intB ?_
  | ((with_reducible refine' x_lenL ?hq ?_); (case hq => walk_at "hk"))
  | ((with_reducible refine' x_lenT ?hq ?_); (case hq => walk_at "hk"))
  | ((with_reducible refine x_iteTe ?h ?_); (case h => exact rfl))
  | ((with_reducible refine x_iteFe ?h ?_); (case h => exact rfl))
  | walk_at "use"
  | with_reducible refine x_callS ?_
  | ((with_reducible refine x_lc ?_))
  | ((with_reducible refine x_for ?_))
  | ((with_reducible refine x_iR1 ?_))
  | ((with_reducible refine x_iL ?_))
  | ((with_reducible refine x_iZ ?_))
  | ((with_reducible refine x_yes ?_))
  | ((with_reducible refine' x_NIDt ?hq ?_); (case hq => assumption))
  | ((with_reducible refine' x_NIDf ?hq ?_); (case hq => assumption))
  | ((with_reducible refine' x_IIDf ?hq ?_); (case hq => assumption))
  | ((with_reducible refine' x_IIDt ?hq ?_); (case hq => assumption))
  | ((with_reducible refine' x_ixDs ?hd ?hq ?_); (case hd => assumption); (case hq => assumption))
  | ((with_reducible refine x_InSt ?h ?_); (case h => decide +kernel))
  | ((with_reducible refine x_InSf ?h ?_); (case h => decide +kernel))
  | ((with_reducible refine' x_notInI ?hq ?_); (case hq => walk_at "hk"))
  | ((with_reducible refine' x_inTt ?hq ?hv ?ha ?he ?_); (case hq => walk_at "hk"); (case hv => exact rfl); (case ha => exact rfl); (case he => decide +kernel))
  | ((with_reducible refine' x_inTf ?hq ?hv ?ha ?he ?_); (case hq => walk_at "hk"); (case hv => exact rfl); (case ha => exact rfl); (case he => decide +kernel))
  | ((with_reducible refine' x_slT ?hq ?hw ?_); (case hq => walk_at "hk"); (case hw => with_unfolding_all exact of_decide_eq_true rfl))
  | ((with_reducible refine' x_slL ?hq ?_); (case hq => walk_at "hk"))
  | ((with_reducible refine' x_catT ?hq ?hr ?n1 ?n2 ?hl ?_); (case hq => walk_at "hk"); (case hr => walk_at "hk"); (case n1 => exact List.cons_ne_nil _ _); (case n2 => exact List.cons_ne_nil _ _); (case hl => exact Nat.le_of_ble_eq_true rfl))
  | ((with_reducible refine x_bm ?_))
  | ((with_reducible refine x_lstRg ?_))
  | ((with_reducible refine x_rg1 ?_))
  | ((with_reducible refine And.intro ?h ?_); (case h => exact tyL (by assumption)))
  | dsimp only)
local macro_rules | `(tactic| walk_at "use") => `(tactic| fail)
local macro_rules | `(tactic| walk_at "rd") => `(tactic| repeat' (walk_at "rd1"))
local macro_rules | `(tactic| walk_at "ex") => `(tactic| first | exact Ex.refl _ | assumption | (refine' Ex.trans ?he (by assumption); (case he => walk_at "ex")))
local macro_rules | `(tactic| walk_at "rd1") => `(tactic| first
  | ((with_reducible refine x_iteDf ?h ?_); (case h => exact rfl))
  | ((with_reducible refine x_iteDt ?h ?_); (case h => exact rfl))
  | ((with_reducible refine x_iteNf ?h ?_); (case h => exact rfl))
  | ((with_reducible refine x_iteNt ?h ?_); (case h => exact rfl))
  | ((with_reducible refine x_isiI (r := true) ?h ?_); (case h => decide +kernel))
  | ((with_reducible refine x_isiI (r := false) ?h ?_); (case h => decide +kernel))
  | ((with_reducible refine x_isiS (r := true) ?h ?_); (case h => decide +kernel))
  | ((with_reducible refine x_isiS (r := false) ?h ?_); (case h => decide +kernel))
  | ((with_reducible refine x_isiB (r := true) ?h ?_); (case h => decide +kernel))
  | ((with_reducible refine x_isiB (r := false) ?h ?_); (case h => decide +kernel))
  | ((with_reducible refine' x_isiT (r := true) ?hp ?h ?_); (case hp => walk_at "hk"); (case h => decide +kernel))
  | ((with_reducible refine' x_isiT (r := false) ?hp ?h ?_); (case hp => walk_at "hk"); (case h => decide +kernel))
  | ((with_reducible refine' x_isiL (r := true) ?hp ?h ?_); (case hp => walk_at "hk"); (case h => decide +kernel))
  | ((with_reducible refine' x_isiL (r := false) ?hp ?h ?_); (case hp => walk_at "hk"); (case h => decide +kernel))
  | ((with_reducible refine' x_isi2L ?hp ?hl ?_); (case hp => walk_at "hk"); (case hl => walk_at "hk"))
  | ((with_reducible refine' x_isi2T ?hp ?hl ?_); (case hp => walk_at "hk"); (case hl => walk_at "hk"))
  | ((with_reducible refine' x_tupOfL ?hq ?_); (case hq => walk_at "hk"))
  | ((with_reducible refine' x_tupOfT ?hq ?_); (case hq => walk_at "hk"))
  | ((with_reducible refine x_lenS ?h ?_); (case h => exact Nat.le_of_ble_eq_true rfl))
  | ((with_reducible refine' x_all ?hq ?_); (case hq => walk_at "hk"))
  | with_reducible refine x_lenSet ?_)

section
variable {P : Program} {w : World} {K : PySem.W.Frag} {mg : Str → Option Value} {base : Heap} {a : Ad} {H : Hp} {Q : VK} {E : XK} {p b : Addr} {q : C} {files : Int}
local macro_rules | `(tactic| walk_at "use") => `(tactic| with_reducible refine u_is_part ?_)
local macro_rules | `(tactic| walk_at "use") => `(tactic| ((with_reducible refine' u_files_of ?hq ?_); (case hq => walk_at "hk"); intro _ _ _ _ _ _ _))
/-- the call has a k and it is not 0, its files are such and different -/
def C.kOk : C → Prop
  | .all k => k ≠ 0 | .up _ k => k ≠ 0 | .wheel _ _ k => k ≠ 0 | _ => True
structure C.Good (files : Int) (q : C) : Prop where
  fs : ∀ f ∈ q.named, 0 ≤ f ∧ f < files
  nd : q.named.Nodup
  k : q.kOk
def C.mirrored (n : Int) : C → C
  | .up f k => .up (n - 1 - f) k | .swap f g => .swap (n - 1 - f) (n - 1 - g) | .wheel f g k => .wheel (n - 1 - f) (n - 1 - g) k | .front f g => .front (n - 1 - f) (n - 1 - g) | q => q
theorem C.Good.turned (h : q.Good files) : q.turned.Good files := by
  obtain ⟨h1, h2, h3⟩ := h
  cases q <;> refine ⟨h1, h2, ?_⟩ <;> simp only [C.turned, C.kOk] at h3 ⊢ <;> omega
theorem C.Good.mirrored (h : q.Good files) : (q.mirrored files).Good files := by
  obtain ⟨h1, h2, h3⟩ := h
  cases q <;> refine ⟨?_, ?_, h3⟩ <;> simp [C.mirrored, C.named] at h1 h2 ⊢ <;> omega
theorem partF {i : Int} (h : 0 ≤ i ∧ i < files) : partOk files ⟨#[102]⟩ i = true := by
  unfold partOk
  rw [if_pos (str1_eq.mpr rfl)]
  exact decide_eq_true h
theorem partK {i : Int} (h : i ≠ 0) : partOk files ⟨#[107]⟩ i = true := by
  unfold partOk
  rw [if_neg (fun e => by have := str1_eq.mp e; omega), decide_eq_false h]
  rfl
/-! is_call, of a call -/
def sp_is_call : Sp := fun vs H Q _ => ∃ (files : Int) (p : Addr) (q : C), vs = [.int files, .ref p] ∧ H p = some (.tup q.vals) ∧ q.Good files ∧ ∀ H1, Ex H H1 → Q (.bl true) H1
theorem u_is_call (h : H p = some (.tup q.vals)) (g : q.Good files) (k : ∀ H1, Ex H H1 → Q (.bl true) H1) : sp_is_call [.int files, .ref p] H Q E := ⟨files, p, q, rfl, h, g, k⟩
/-- the parts of a call that is one -/
def PartsOk (files : Int) : List Nat → List Int → Prop
  | c :: cs, y :: ys => partOk files ⟨#[c]⟩ y = true ∧ PartsOk files cs ys
  | _, _ => True
theorem PartsOk.at_ : ∀ {cs : List Nat} {ys : List Int}, PartsOk files cs ys → ∀ (i c : Nat) (y : Int), cs[i]? = some c → ys[i]? = some y → partOk files ⟨#[c]⟩ y = true
  | [], _, _, _, _, _, h, _ => nomatch h
  | _ :: _, [], _, _, _, _, _, h => nomatch h
  | _ :: _, _ :: _, ⟨h, _⟩, 0, _, _, h1, h2 => by cases h1; cases h2; exact h
  | _ :: _, _ :: _, ⟨_, h⟩, i + 1, _, _, h1, h2 => h.at_ i _ _ h1 h2
theorem zip_parts {σ : L2.St} {x : Str} {ys : List Int} {H1 : Hp} {te : TE} (hx : H1 b = some (.tup (ys.map V.int))) (hn : x.cps.size = ys.length) (h4 : ys.length ≤ 1000) (hp : PartsOk files x.cps.toList ys)
    (hw : ∀ u v, wipe (((wipe σ [5, 6]).set 5 (some u)).set 6 (some v)) [5, 6] = wipe σ [5, 6])
    (hte : ∀ (c : Nat) (y : Int) (H' : Hp) (Q' : VK), partOk files ⟨#[c]⟩ y = true → Q' (.bl true) H' → te (((wipe σ [5, 6]).set 5 (some (.str ⟨#[c]⟩))).set 6 (some (.int y))) H' Q')
    (k : ∀ p H2, Ex H1 H2 → H1 p = none → H2 p = some (.lst ((List.zipWith (fun _ _ => true) x.cps.toList ys).map V.bl)) → Q (.ref p) H2) :
    ZK K [.str x, .ref b] H1 fun J H2 => LcGo J (gTup K 2 (gCons (gName 5) (gCons (gName 6) gNil))) tYes te [5, 6] σ H2 Q := by
  have e : List.zipWith (fun _ _ => V.bl true) x.cps.toList ys = (List.zipWith (fun _ _ => true) x.cps.toList ys).map V.bl := by rw [List.map_zipWith]
  refine zip_gen (f := fun _ _ => .bl true) hx hn h4 (fun i => by rw [e, ← List.map_take]; exact NB.bls) hw (fun i c y H' Q' hc hy kk => hte c y H' Q' (hp.at_ i c y hc hy) kk) fun p H2 e1 e2 e3 => k p H2 e1 e2 (by rw [e3, e])
theorem C.good_parts (g : q.Good files) : PartsOk files q.pp.cps.toList q.ar := by
  obtain ⟨g1, g2, g3⟩ := g
  cases q with
  | all k => exact ⟨partK g3, trivial⟩
  | up f k => exact ⟨partF (g1 f (.head _)), partK g3, trivial⟩
  | swap f g => exact ⟨partF (g1 f (.head _)), partF (g1 g (.tail _ (.head _))), trivial⟩
  | wheel f g k => exact ⟨partF (g1 f (.head _)), partF (g1 g (.tail _ (.head _))), partK g3, trivial⟩
  | front f g => exact ⟨partF (g1 f (.head _)), partF (g1 g (.tail _ (.head _))), trivial⟩
  | about => exact trivial
  | halve => exact trivial
  | pair => exact trivial
  | others => exact trivial
  | fill => exact trivial
theorem C.valsLen : (q.vals.length : Int) = q.ar.length + 1 := by cases q <;> rfl
theorem C.ppLen : (q.pp.length : Int) = q.ar.length := by cases q <;> rfl
theorem C.ppLe : q.pp.length ≤ sizeLine := by cases q <;> exact Nat.le_of_ble_eq_true rfl
theorem C.allTrue : (List.zipWith (fun _ _ => true) q.pp.cps.toList q.ar).all id = true := by cases q <;> rfl
theorem ok_is_call (T : Txt K w mg a) : FnOk P w K mg base CX0 4 a.a_is_call a.fd_is_call ["files", "thing"] sp_is_call := by
  refine T.F_is_call.ok sc_is_call (fun vs H Q E h => ?_) (fun cdv A outer s H vs Q E hr h => ?_)
  · obtain ⟨f, p, q, rfl, _⟩ := h; rfl
  · obtain ⟨f, p, q, rfl, hp, hg, k⟩ := h
    have G_is_part := ok_is_part (P := P) (base := base) T
    have G_files_of := ok_files_of (P := P) (base := base) T
    refine ⟨_, (pss_cons (ps_if (PW.pt (pw_or (pt_not (pt_val (pe_callB call_isi (by rfl) T.n_isinstance (by decide +kernel) (pa_cons (pv 1) (pa_cons (pe_bltn (v := .ty "tuple") (u := .type "tuple") (by rfl) T.n_tuple (by decide +kernel) rfl) pa_nil))))) (pw_or1 (pt_cmpR op_eq (pe_callB c_len (by rfl) T.n_len PySem.boot_len (pa_cons (pv 1) pa_nil)) pe_int (nomark _))))) (pss_one (ps_ret pe_bl)) pss_nil)
      (pss_cons (ps_set (i := 2) sc_is_call.nd rfl (Or.inl rfl) (pe_ix ix_tup (pv 1) pe_int (fun _ _ => rfl)))
      (pss_cons (ps_if (PW.pt (pw_or (pt_not (pt_val (pe_callB call_isi (by rfl) T.n_isinstance (by decide +kernel) (pa_cons (pv 2) (pa_cons (pe_bltn (v := .ty "str") (u := .type "str") (by rfl) T.n_str (by decide +kernel) rfl) pa_nil))))) (pw_or1 (pt_cmpR (c_notInD T.d_PARTS) (pv 2) (pe_glob (v := .ref a.d_PARTS) (by rfl) T.g_PARTS rfl) (by rfl))))) (pss_one (ps_ret pe_bl)) pss_nil)
      (pss_cons (ps_set (i := 3) sc_is_call.nd rfl (Or.inl rfl) (pe_ix ix_kdict (pe_glob (v := .ref a.d_PARTS) (by rfl) T.g_PARTS rfl) (pv 2) (fun _ _ => rfl)))
      (pss_cons (ps_if (pt_cmpR op_ne (pe_callB c_len (by rfl) T.n_len PySem.boot_len (pa_cons (pv 1) pa_nil)) (pe_op op_add (pe_callB c_lenS (by rfl) T.n_len PySem.boot_len (pa_cons (pv 3) pa_nil)) pe_int) (nomark _)) (pss_one (ps_ret pe_bl)) pss_nil)
      (pss_cons (ps_if (pt_not (pt_val (pe_callB (cr_all rfl) (by rfl) T.n_all (by decide +kernel) (pa_cons (pe_lc (own := [("part", 5), ("item", 6)]) rfl sc_is_call.nd (Zst.pi_zipS (by rfl) T.n_zip (pa_cons (pv 3) (pa_cons (pe_slice sl_tup (pv 1) (po_some pe_int) po_none) pa_nil))) (blkOk_by (own := [("part", 5), ("item", 6)]) (N := ["files", "thing", "word", "parts", "named", "part", "item"]) (sc := defScope s_is_call) (by decide +kernel)) (fun _ _ _ _ _ => (pg_tupB (n := 2) rfl (pgs_cons (pg_name (i := 5) sc_is_call.nd rfl (Or.inl rfl) (Or.inr rfl)) (pgs_cons (pg_name (i := 6) sc_is_call.nd rfl (Or.inl rfl) (Or.inr rfl)) pgs_nil)))) (fun _ _ _ _ _ => pts_nil) (fun _ _ _ _ _ => (pe_call G_is_part (hr.mono (by decide)) (by rfl) T.m_is_part T.k_is_part T.b_is_part .nil pass0 (pa_cons (pv 0) (pa_cons (pv 5) (pa_cons (pv 6) pa_nil)))))) pa_nil)))) (pss_one (ps_ret pe_bl)) pss_nil)
      (pss_cons (ps_set (i := 4) sc_is_call.nd rfl (Or.inl rfl) (pe_call G_files_of (hr.mono (by decide)) (by rfl) T.m_files_of T.k_files_of T.b_files_of .nil pass0 (pa_cons (pv 1) pa_nil)))
      (pss_one (ps_ret (pe_cmpR op_eq (Ow.pe_lenSetI rfl (by rfl) T.n_len (by rfl) T.n_set (pv 4)) (pe_callB c_len (by rfl) T.n_len PySem.boot_len (pa_cons (pv 4) pa_nil)) (nomark _))))))))))), ?_⟩
    have d_PARTS := T.d_PARTS
    have hw := C.partOf (q := q) T
    obtain ⟨_, hv⟩ := id hw
    have h0 : atI q.vals 0 = some (.str q.wd) := C.wd0
    have l1 := C.valsLen (q := q)
    have l2 := C.ppLen (q := q)
    walk_at "rd"
    · omega
    refine x_lenS C.ppLe ?_
    walk_at "rd"
    · omega
    refine x_slT hp C.noWhole ?_
    walk_at "rd"
    rename_i h
    rw [C.cut1] at h
    refine zip_parts h C.ppar C.arLe (C.good_parts hg) (fun u v => rfl) (fun c y H' Q' ok kk => by walk_at "rd"; rw [ok]; exact kk) fun p1 H2 e1 e2 e3 => ?_
    walk_at "rd"
    rw [C.allTrue]
    walk_at "rd"
    refine' x_lenSetN ?hq ?pm ?nd ?hl ?_; (case hq => walk_at "hk"); (case pm => assumption); (case nd => exact hg.nd); (case hl => exact Nat.le_trans (Nat.le_of_lt C.namedLt) (by decide))
    walk_at "rd"
    rw [List.length_map, decide_eq_true rfl]
    exact k _ (by walk_at "ex")
end
end My

set_option Elab.async false
set_option linter.all false
set_option maxRecDepth 100000
set_option maxHeartbeats 8000000
namespace My
open PySem PySem.Spec PyProof.Rows L2 Sx
local macro_rules | `(tactic| walk_at "nb") => `(tactic| first | exact NB.tup | exact NB.ints | exact NB.len (of_decide_eq_true rfl) | exact NB.at0b rfl | exact NB.at3b rfl | exact NB.ins | exact NB.own | exact NB.frz | exact NB.refs (by assumption) | assumption)
local macro_rules | `(tactic| walk_at "ne") => `(tactic| first | assumption | exact Ne.symm (by assumption) | exact ne_of_none (by assumption) (by assumption) | exact Ne.symm (ne_of_none (by assumption) (by assumption)))
local macro_rules | `(tactic| walk_at "hk") => `(tactic| first
  | assumption
  | exact upd_same
  | (refine' (upd_ne ?hkne).trans ?hkq; (case hkne => walk_at "ne"); (case hkq => walk_at "hk"))
  | (refine' Ex.kp (by assumption) _ _ ?hkq ?hkn; (case hkq => walk_at "hk"); (case hkn => walk_at "nb")))
local macro_rules | `(tactic| walk_at "rd1") => `(tactic| first
  | ((with_reducible refine' x_var ?hx ?_); (case hx => exact rfl))
  | with_reducible refine x_c ?_
  | with_reducible refine x_op ?_
  | with_reducible refine x_un ?_
  | with_reducible refine x_I0 ?_
  | with_reducible refine x_U ?_
  | ((with_reducible refine x_I ?hc ?_); (case hc => first | exact (by decide : (0 : Int) < _) | (show (0 : Int) < _; omega) | (show CMul _ _; first | exact .inl ⟨by omega, by omega⟩ | exact .inr ⟨by omega, by omega⟩) | (show CDiv _ _; exact ⟨by omega, by omega⟩) | (show CDivW _ _; exact wide_div (b := 200) (by omega) (by assumption) (by decide) (by decide)) | (show CDivW _ _; exact wide_div (b := 31) (by omega) (by omega) (by decide) (by decide))))
  | with_reducible refine x_EqI ?_
  | with_reducible refine x_NeI ?_
  | ((with_reducible refine x_EqSt ?h ?_); (case h => decide +kernel))
  | ((with_reducible refine x_EqSf ?h ?_); (case h => decide +kernel))
  | ((with_reducible refine x_NeSt ?h ?_); (case h => decide +kernel))
  | ((with_reducible refine x_NeSf ?h ?_); (case h => decide +kernel))
  | with_reducible refine x_EqS ?_
  | with_reducible refine x_NeS ?_
  | ((with_reducible refine' x_ixL ?hq ?hi ?_); (case hq => walk_at "hk"); (case hi => first | exact rfl | assumption))
  | ((with_reducible refine' x_ixT ?hq ?hi ?_); (case hq => walk_at "hk"); (case hi => first | exact rfl | assumption))
  | with_reducible refine x_chain ?_
  | with_reducible refine x_tup ?_
  | with_reducible refine x_lst ?_
  | ((with_reducible refine x_lenNew ?hl ?_); (case hl => exact Nat.le_of_ble_eq_true rfl); intro _ _ _ _ _)
  | ((with_reducible refine x_new ?_); intro _ _ _ _ _)
  | with_reducible refine x_sl ?_
  | with_reducible refine x_noPart ?_
  | with_reducible refine x_part ?_
  | with_reducible refine x_ex_int ?_
  | with_reducible refine x_ex_bl ?_
  | with_reducible refine x_ex_2 ?_
  | with_reducible refine x_test ?_
  | with_reducible refine x_B ?_
  | with_reducible refine x_and ?_
  | with_reducible refine x_or ?_
  | with_reducible refine x_not ?_
  | with_reducible refine x_andV ?_
  | with_reducible refine x_orV ?_
  | with_reducible refine x_notV ?_
  | with_reducible refine x_ifE ?_
  | with_reducible refine x_iteT ?_
  | with_reducible refine x_iteF ?_
  | ((with_reducible refine x_iteD ?_ ?_) <;> intro _)
  | ((with_reducible refine x_iteN ?_ ?_) <;> intro _)
  | with_reducible refine x_if ?_
  | with_reducible refine x_seq ?_
  | with_reducible refine x_next ?_
  | with_reducible refine x_asg ?_
  | with_reducible refine x_gName ?_
  | ((with_reducible refine' x_gTup ?hq ?hn ?_); (case hq => walk_at "hk"); (case hn => exact rfl))
  | with_reducible refine x_gCons ?_
  | with_reducible refine x_gNil ?_
  | ((with_reducible refine' x_gConsE ?h ?_); (case h => exact rfl))
  | ((with_reducible refine x_gNilE ?h ?_); (case h => exact rfl))
  | with_reducible refine x_ret ?_
  | with_reducible refine x_drop ?_
  | with_reducible refine x_par ?_
  | ((with_reducible refine' x_aug ?hx ?_); (case hx => exact rfl))
  | with_reducible refine x_ipI ?_
  | with_reducible refine x_augS ?_
  | with_reducible refine x_gSub ?_
  | ((with_reducible refine' x_setL ?hq ?hi ?_); (case hq => walk_at "hk"); (case hi => first | exact rfl | assumption))
  | with_reducible refine x_cons ?_
  | with_reducible refine x_nil ?_
  | with_reducible refine x_CB ?_
  | with_reducible refine x_abs ?_
  | with_reducible refine x_intI ?_
  | with_reducible refine x_intB ?_
  | ((with_reducible refine' x_lenL ?hq ?_); (case hq => walk_at "hk"))
  | ((with_reducible refine' x_lenT ?hq ?_); (case hq => walk_at "hk"))
  | ((with_reducible refine x_iteTe ?h ?_); (case h => exact rfl))
  | ((with_reducible refine x_iteFe ?h ?_); (case h => exact rfl))
  | walk_at "use"
  | with_reducible refine x_callS ?_
  | ((with_reducible refine x_lc ?_))
  | ((with_reducible refine x_for ?_))
  | ((with_reducible refine x_iR1 ?_))
  | ((with_reducible refine x_iL ?_))
  | ((with_reducible refine x_iZ ?_))
  | ((with_reducible refine x_yes ?_))
  | ((with_reducible refine' x_NIDt ?hq ?_); (case hq => assumption))
  | ((with_reducible refine' x_NIDf ?hq ?_); (case hq => assumption))
  | ((with_reducible refine' x_IIDf ?hq ?_); (case hq => assumption))
  | ((with_reducible refine' x_IIDt ?hq ?_); (case hq => assumption))
  | ((with_reducible refine' x_ixDs ?hd ?hq ?_); (case hd => assumption); (case hq => assumption))
  | ((with_reducible refine x_InSt ?h ?_); (case h => decide +kernel))
  | ((with_reducible refine x_InSf ?h ?_); (case h => decide +kernel))
  | ((with_reducible refine' x_notInI ?hq ?_); (case hq => walk_at "hk"))
  | ((with_reducible refine' x_inTt ?hq ?hv ?ha ?he ?_); (case hq => walk_at "hk"); (case hv => exact rfl); (case ha => exact rfl); (case he => decide +kernel))
  | ((with_reducible refine' x_inTf ?hq ?hv ?ha ?he ?_); (case hq => walk_at "hk"); (case hv => exact rfl); (case ha => exact rfl); (case he => decide +kernel))
  | ((with_reducible refine' x_slT ?hq ?hw ?_); (case hq => walk_at "hk"); (case hw => with_unfolding_all exact of_decide_eq_true rfl))
  | ((with_reducible refine' x_slL ?hq ?_); (case hq => walk_at "hk"))
  | ((with_reducible refine' x_catT ?hq ?hr ?n1 ?n2 ?hl ?_); (case hq => walk_at "hk"); (case hr => walk_at "hk"); (case n1 => exact List.cons_ne_nil _ _); (case n2 => exact List.cons_ne_nil _ _); (case hl => exact Nat.le_of_ble_eq_true rfl))
  | ((with_reducible refine x_bm ?_))
  | ((with_reducible refine x_lstRg ?_))
  | ((with_reducible refine x_rg1 ?_))
  | ((with_reducible refine And.intro ?h ?_); (case h => exact tyL (by assumption)))
  | dsimp only)
local macro_rules | `(tactic| walk_at "use") => `(tactic| fail)
local macro_rules | `(tactic| walk_at "rd") => `(tactic| repeat' (walk_at "rd1"))
local macro_rules | `(tactic| walk_at "ex") => `(tactic| first | exact Ex.refl _ | assumption | (refine' Ex.trans ?he (by assumption); (case he => walk_at "ex")))
local macro_rules | `(tactic| walk_at "rd1") => `(tactic| first
  | ((with_reducible refine x_iteDf ?h ?_); (case h => exact rfl))
  | ((with_reducible refine x_iteDt ?h ?_); (case h => exact rfl))
  | ((with_reducible refine x_iteNf ?h ?_); (case h => exact rfl))
  | ((with_reducible refine x_iteNt ?h ?_); (case h => exact rfl))
  | ((with_reducible refine x_isiI (r := true) ?h ?_); (case h => decide +kernel))
  | ((with_reducible refine x_isiI (r := false) ?h ?_); (case h => decide +kernel))
  | ((with_reducible refine x_isiS (r := true) ?h ?_); (case h => decide +kernel))
  | ((with_reducible refine x_isiS (r := false) ?h ?_); (case h => decide +kernel))
  | ((with_reducible refine x_isiB (r := true) ?h ?_); (case h => decide +kernel))
  | ((with_reducible refine x_isiB (r := false) ?h ?_); (case h => decide +kernel))
  | ((with_reducible refine' x_isiT (r := true) ?hp ?h ?_); (case hp => walk_at "hk"); (case h => decide +kernel))
  | ((with_reducible refine' x_isiT (r := false) ?hp ?h ?_); (case hp => walk_at "hk"); (case h => decide +kernel))
  | ((with_reducible refine' x_isiL (r := true) ?hp ?h ?_); (case hp => walk_at "hk"); (case h => decide +kernel))
  | ((with_reducible refine' x_isiL (r := false) ?hp ?h ?_); (case hp => walk_at "hk"); (case h => decide +kernel))
  | ((with_reducible refine' x_isi2L ?hp ?hl ?_); (case hp => walk_at "hk"); (case hl => walk_at "hk"))
  | ((with_reducible refine' x_isi2T ?hp ?hl ?_); (case hp => walk_at "hk"); (case hl => walk_at "hk"))
  | ((with_reducible refine' x_tupOfL ?hq ?_); (case hq => walk_at "hk"))
  | ((with_reducible refine' x_tupOfT ?hq ?_); (case hq => walk_at "hk"))
  | ((with_reducible refine x_lenS ?h ?_); (case h => exact Nat.le_of_ble_eq_true rfl))
  | ((with_reducible refine' x_all ?hq ?_); (case hq => walk_at "hk"))
  | with_reducible refine x_lenSet ?_)

local macro_rules | `(tactic| walk_at "bg") => `(tactic| first | assumption | exact Ex.bag (by assumption) (by walk_at "bg"))
section
variable {P : Program} {w : World} {K : PySem.W.Frag} {mg : Str → Option Value} {base : Heap} {a : Ad} {H H1 H' : Hp} {Q : VK} {E : XK} {p b s : Addr} {q : C}
/-! size_of -/
def C.size : C → Int
  | .all k => if k < 0 then -k else k | .up _ k => if k < 0 then -k else k | .wheel _ _ k => if k < 0 then -k else k | _ => 1
end
end My

set_option Elab.async false
set_option linter.all false
set_option maxRecDepth 100000
set_option maxHeartbeats 8000000
namespace My
open PySem PySem.Spec PyProof.Rows L2 Sx
local macro_rules | `(tactic| walk_at "nb") => `(tactic| first | exact NB.tup | exact NB.ints | exact NB.len (of_decide_eq_true rfl) | exact NB.at0b rfl | exact NB.at3b rfl | exact NB.ins | exact NB.own | exact NB.frz | exact NB.refs (by assumption) | assumption)
local macro_rules | `(tactic| walk_at "ne") => `(tactic| first | assumption | exact Ne.symm (by assumption) | exact ne_of_none (by assumption) (by assumption) | exact Ne.symm (ne_of_none (by assumption) (by assumption)))
local macro_rules | `(tactic| walk_at "hk") => `(tactic| first
  | assumption
  | exact upd_same
  | (refine' (upd_ne ?hkne).trans ?hkq; (case hkne => walk_at "ne"); (case hkq => walk_at "hk"))
  | (refine' Ex.kp (by assumption) _ _ ?hkq ?hkn; (case hkq => walk_at "hk"); (case hkn => walk_at "nb")))
local macro_rules | `(tactic| walk_at "rd1") => `(tactic| first
  | ((with_reducible refine' x_var ?hx ?_); (case hx => exact rfl))
  | with_reducible refine x_c ?_
  | with_reducible refine x_op ?_
  | with_reducible refine x_un ?_
  | with_reducible refine x_I0 ?_
  | with_reducible refine x_U ?_
  | ((with_reducible refine x_I ?hc ?_); (case hc => first | exact (by decide : (0 : Int) < _) | (show (0 : Int) < _; omega) | (show CMul _ _; first | exact .inl ⟨by omega, by omega⟩ | exact .inr ⟨by omega, by omega⟩) | (show CDiv _ _; exact ⟨by omega, by omega⟩) | (show CDivW _ _; exact wide_div (b := 200) (by omega) (by assumption) (by decide) (by decide)) | (show CDivW _ _; exact wide_div (b := 31) (by omega) (by omega) (by decide) (by decide))))
  | with_reducible refine x_EqI ?_
  | with_reducible refine x_NeI ?_
  | ((with_reducible refine x_EqSt ?h ?_); (case h => decide +kernel))
  | ((with_reducible refine x_EqSf ?h ?_); (case h => decide +kernel))
  | ((with_reducible refine x_NeSt ?h ?_); (case h => decide +kernel))
  | ((with_reducible refine x_NeSf ?h ?_); (case h => decide +kernel))
  | with_reducible refine x_EqS ?_
  | with_reducible refine x_NeS ?_
  | ((with_reducible refine' x_ixL ?hq ?hi ?_); (case hq => walk_at "hk"); (case hi => first | exact rfl | assumption))
  | ((with_reducible refine' x_ixT ?hq ?hi ?_); (case hq => walk_at "hk"); (case hi => first | exact rfl | assumption))
  | with_reducible refine x_chain ?_
  | with_reducible refine x_tup ?_
  | with_reducible refine x_lst ?_
  | ((with_reducible refine x_lenNew ?hl ?_); (case hl => exact Nat.le_of_ble_eq_true rfl); intro _ _ _ _ _)
  | ((with_reducible refine x_new ?_); intro _ _ _ _ _)
  | with_reducible refine x_sl ?_
  | with_reducible refine x_noPart ?_
  | with_reducible refine x_part ?_
  | with_reducible refine x_ex_int ?_
  | with_reducible refine x_ex_bl ?_
  | with_reducible refine x_ex_2 ?_
  | with_reducible refine x_test ?_
  | with_reducible refine x_B ?_
  | with_reducible refine x_and ?_
  | with_reducible refine x_or ?_
  | with_reducible refine x_not ?_
  | with_reducible refine x_andV ?_
  | with_reducible refine x_orV ?_
  | with_reducible refine x_notV ?_
  | with_reducible refine x_ifE ?_
  | with_reducible refine x_iteT ?_
  | with_reducible refine x_iteF ?_
  | ((with_reducible refine x_iteD ?_ ?_) <;> intro _)
  | ((with_reducible refine x_iteN ?_ ?_) <;> intro _)
  | with_reducible refine x_if ?_
  | with_reducible refine x_seq ?_
  | with_reducible refine x_next ?_
  | with_reducible refine x_asg ?_
  | with_reducible refine x_gName ?_
  | ((with_reducible refine' x_gTup ?hq ?hn ?_); (case hq => walk_at "hk"); (case hn => exact rfl))
  | with_reducible refine x_gCons ?_
  | with_reducible refine x_gNil ?_
  | ((with_reducible refine' x_gConsE ?h ?_); (case h => exact rfl))
  | ((with_reducible refine x_gNilE ?h ?_); (case h => exact rfl))
  | with_reducible refine x_ret ?_
  | with_reducible refine x_drop ?_
  | with_reducible refine x_par ?_
  | ((with_reducible refine' x_aug ?hx ?_); (case hx => exact rfl))
  | with_reducible refine x_ipI ?_
  | with_reducible refine x_augS ?_
  | with_reducible refine x_gSub ?_
  | ((with_reducible refine' x_setL ?hq ?hi ?_); (case hq => walk_at "hk"); (case hi => first | exact rfl | assumption))
  | with_reducible refine x_cons ?_
  | with_reducible refine x_nil ?_
  | with_reducible refine x_CB ?_
  | with_reducible refine x_abs ?_
  | with_reducible refine x_intI ?_
  | with_reducible refine x_intB ?_
  | ((with_reducible refine' x_lenL ?hq ?_); (case hq => walk_at "hk"))
  | ((with_reducible refine' x_lenT ?hq ?_); (case hq => walk_at "hk"))
  | ((with_reducible refine x_iteTe ?h ?_); (case h => exact rfl))
  | ((with_reducible refine x_iteFe ?h ?_); (case h => exact rfl))
  | walk_at "use"
  | with_reducible refine x_callS ?_
  | ((with_reducible refine x_lc ?_))
  | ((with_reducible refine x_for ?_))
  | ((with_reducible refine x_iR1 ?_))
  | ((with_reducible refine x_iL ?_))
  | ((with_reducible refine x_iZ ?_))
  | ((with_reducible refine x_yes ?_))
  | ((with_reducible refine' x_NIDt ?hq ?_); (case hq => assumption))
  | ((with_reducible refine' x_NIDf ?hq ?_); (case hq => assumption))
  | ((with_reducible refine' x_IIDf ?hq ?_); (case hq => assumption))
  | ((with_reducible refine' x_IIDt ?hq ?_); (case hq => assumption))
  | ((with_reducible refine' x_ixDs ?hd ?hq ?_); (case hd => assumption); (case hq => assumption))
  | ((with_reducible refine x_InSt ?h ?_); (case h => decide +kernel))
  | ((with_reducible refine x_InSf ?h ?_); (case h => decide +kernel))
  | ((with_reducible refine' x_notInI ?hq ?_); (case hq => walk_at "hk"))
  | ((with_reducible refine' x_inTt ?hq ?hv ?ha ?he ?_); (case hq => walk_at "hk"); (case hv => exact rfl); (case ha => exact rfl); (case he => decide +kernel))
  | ((with_reducible refine' x_inTf ?hq ?hv ?ha ?he ?_); (case hq => walk_at "hk"); (case hv => exact rfl); (case ha => exact rfl); (case he => decide +kernel))
  | ((with_reducible refine' x_slT ?hq ?hw ?_); (case hq => walk_at "hk"); (case hw => with_unfolding_all exact of_decide_eq_true rfl))
  | ((with_reducible refine' x_slL ?hq ?_); (case hq => walk_at "hk"))
  | ((with_reducible refine' x_catT ?hq ?hr ?n1 ?n2 ?hl ?_); (case hq => walk_at "hk"); (case hr => walk_at "hk"); (case n1 => exact List.cons_ne_nil _ _); (case n2 => exact List.cons_ne_nil _ _); (case hl => exact Nat.le_of_ble_eq_true rfl))
  | ((with_reducible refine x_bm ?_))
  | ((with_reducible refine x_lstRg ?_))
  | ((with_reducible refine x_rg1 ?_))
  | ((with_reducible refine And.intro ?h ?_); (case h => exact tyL (by assumption)))
  | dsimp only)
local macro_rules | `(tactic| walk_at "use") => `(tactic| fail)
local macro_rules | `(tactic| walk_at "rd") => `(tactic| repeat' (walk_at "rd1"))
local macro_rules | `(tactic| walk_at "ex") => `(tactic| first | exact Ex.refl _ | assumption | (refine' Ex.trans ?he (by assumption); (case he => walk_at "ex")))
local macro_rules | `(tactic| walk_at "rd1") => `(tactic| first
  | ((with_reducible refine x_iteDf ?h ?_); (case h => exact rfl))
  | ((with_reducible refine x_iteDt ?h ?_); (case h => exact rfl))
  | ((with_reducible refine x_iteNf ?h ?_); (case h => exact rfl))
  | ((with_reducible refine x_iteNt ?h ?_); (case h => exact rfl))
  | ((with_reducible refine x_isiI (r := true) ?h ?_); (case h => decide +kernel))
  | ((with_reducible refine x_isiI (r := false) ?h ?_); (case h => decide +kernel))
  | ((with_reducible refine x_isiS (r := true) ?h ?_); (case h => decide +kernel))
  | ((with_reducible refine x_isiS (r := false) ?h ?_); (case h => decide +kernel))
  | ((with_reducible refine x_isiB (r := true) ?h ?_); (case h => decide +kernel))
  | ((with_reducible refine x_isiB (r := false) ?h ?_); (case h => decide +kernel))
  | ((with_reducible refine' x_isiT (r := true) ?hp ?h ?_); (case hp => walk_at "hk"); (case h => decide +kernel))
  | ((with_reducible refine' x_isiT (r := false) ?hp ?h ?_); (case hp => walk_at "hk"); (case h => decide +kernel))
  | ((with_reducible refine' x_isiL (r := true) ?hp ?h ?_); (case hp => walk_at "hk"); (case h => decide +kernel))
  | ((with_reducible refine' x_isiL (r := false) ?hp ?h ?_); (case hp => walk_at "hk"); (case h => decide +kernel))
  | ((with_reducible refine' x_isi2L ?hp ?hl ?_); (case hp => walk_at "hk"); (case hl => walk_at "hk"))
  | ((with_reducible refine' x_isi2T ?hp ?hl ?_); (case hp => walk_at "hk"); (case hl => walk_at "hk"))
  | ((with_reducible refine' x_tupOfL ?hq ?_); (case hq => walk_at "hk"))
  | ((with_reducible refine' x_tupOfT ?hq ?_); (case hq => walk_at "hk"))
  | ((with_reducible refine x_lenS ?h ?_); (case h => exact Nat.le_of_ble_eq_true rfl))
  | ((with_reducible refine' x_all ?hq ?_); (case hq => walk_at "hk"))
  | with_reducible refine x_lenSet ?_)

section
variable {P : Program} {w : World} {K : PySem.W.Frag} {mg : Str → Option Value} {base : Heap} {a : Ad} {H H1 H' : Hp} {Q : VK} {E : XK} {p b s : Addr} {q : C}
open Er
/-! the calls as data -/
theorem C.ok.good {fs : Int} (h : q.ok fs) : q.Good fs := by
  cases q <;> simp [C.ok, isFile] at h <;> refine ⟨?_, ?_, ?_⟩ <;> simp [C.named, C.kOk] <;> omega
theorem C.turned2 : q.turned.turned = q := by cases q <;> simp [C.turned]
theorem C.ok.turned {fs : Int} (h : q.ok fs) : q.turned.ok fs := by
  cases q <;> simp [C.ok, C.turned, isFile] at h ⊢ <;> omega
theorem C.flat {fs : Int} (hfs : fs = 2 ∨ fs = 3) (h : q.ok fs) (hk : q.kAbs < 10 ^ 50) : ∀ v ∈ q.vals, okF v := by
  have ks : ∀ k : Int, k.natAbs < 10 ^ 50 → k.natAbs < 10 ^ 59 := fun k h => Nat.lt_of_lt_of_le h (by decide)
  have fsm : ∀ f : Int, 0 ≤ f ∧ f < fs → f.natAbs < 10 ^ 59 := fun f h => Nat.lt_of_lt_of_le (show f.natAbs < 3 by omega) (by decide)
  cases q <;> simp only [C.ok, isFile, C.kAbs] at h hk <;> intro v hv <;> simp only [C.vals, List.mem_cons, List.not_mem_nil, or_false] at hv
  · rcases hv with rfl | rfl
    · (show strB _ = true; decide +kernel)
    · exact ks _ hk
  · rcases hv with rfl | rfl | rfl
    · (show strB _ = true; decide +kernel)
    · exact fsm _ h.1
    · exact ks _ hk
  · rcases hv with rfl | rfl | rfl
    · (show strB _ = true; decide +kernel)
    · exact fsm _ h.1
    · exact fsm _ h.2.1
  · rcases hv with rfl | rfl | rfl | rfl
    · (show strB _ = true; decide +kernel)
    · exact fsm _ h.1
    · exact fsm _ h.2.1
    · exact ks _ hk
  · subst hv; (show strB _ = true; decide +kernel)
  · rcases hv with rfl | rfl | rfl
    · (show strB _ = true; decide +kernel)
    · exact fsm _ h.1
    · exact fsm _ h.2.1
  all_goals (subst hv; (show strB _ = true; decide +kernel))
def qd (q : C) : PyData := .tuple (q.vals.map toD)
theorem C.dn (h : H p = some (.tup q.vals)) (hf : ∀ v ∈ q.vals, okF v) : DN H (qd q) (.ref p) := dnTup h (dns_map hf)
theorem C.sml (hf : ∀ v ∈ q.vals, okF v) : Sml 1100 1 (qd q) := Sml.tup (b := 10) (n := 100) (sml_map hf) (by rw [List.length_map]; cases q <;> simp [C.vals])
theorem sorted_one {l m : List Int} (hp : l.Perm m) (h1 : l.Pairwise (· ≤ ·)) (h2 : m.Pairwise (· ≤ ·)) : l = m :=
  hp.eq_of_pairwise (fun a b _ _ x y => Int.le_antisymm x y) h1 h2
theorem Ex.mutN {l : Addr} {o : HO} {xs : List V} (e : Ex H H1) (n : ∀ o, NB o → H l ≠ some o) (h : H1 l = some (.lst xs)) (nb : NB (.lst xs)) : Ex H (upd H1 l o) := by
  refine ⟨fun a o' q nn => ?_, fun b c q => ?_⟩
  · have hne : a ≠ l := fun ea => n o' nn (ea ▸ q)
    rw [upd_ne hne]
    exact e.kp a o' q nn
  · obtain ⟨x0, y0, z0, ns0, k1, k2, _⟩ := id q
    obtain ⟨x, y, z, ns, e1, e2, r⟩ := e.bg b c q
    have hb : b ≠ l := fun ea => by
      subst ea
      rw [h] at e1
      injection e1 with e1
      exact nb x y z c e1
    have hc : c ≠ l := fun ea => n _ NB.ints (ea ▸ k2)
    exact ⟨x, y, z, ns, by rw [upd_ne hb]; exact e1, by rw [upd_ne hc]; exact e2, r⟩
end
end My

set_option Elab.async false
set_option linter.all false
set_option maxRecDepth 100000
set_option maxHeartbeats 8000000
namespace My
open PySem PySem.Spec PyProof.Rows L2 Sx
local macro_rules | `(tactic| walk_at "nb") => `(tactic| first | exact NB.tup | exact NB.ints | exact NB.len (of_decide_eq_true rfl) | exact NB.at0b rfl | exact NB.at3b rfl | exact NB.ins | exact NB.own | exact NB.frz | exact NB.refs (by assumption) | assumption)
local macro_rules | `(tactic| walk_at "ne") => `(tactic| first | assumption | exact Ne.symm (by assumption) | exact ne_of_none (by assumption) (by assumption) | exact Ne.symm (ne_of_none (by assumption) (by assumption)))
local macro_rules | `(tactic| walk_at "hk") => `(tactic| first
  | assumption
  | exact upd_same
  | (refine' (upd_ne ?hkne).trans ?hkq; (case hkne => walk_at "ne"); (case hkq => walk_at "hk"))
  | (refine' Ex.kp (by assumption) _ _ ?hkq ?hkn; (case hkq => walk_at "hk"); (case hkn => walk_at "nb")))
local macro_rules | `(tactic| walk_at "rd1") => `(tactic| first
  | ((with_reducible refine' x_var ?hx ?_); (case hx => exact rfl))
  | with_reducible refine x_c ?_
  | with_reducible refine x_op ?_
  | with_reducible refine x_un ?_
  | with_reducible refine x_I0 ?_
  | with_reducible refine x_U ?_
  | ((with_reducible refine x_I ?hc ?_); (case hc => first | exact (by decide : (0 : Int) < _) | (show (0 : Int) < _; omega) | (show CMul _ _; first | exact .inl ⟨by omega, by omega⟩ | exact .inr ⟨by omega, by omega⟩) | (show CDiv _ _; exact ⟨by omega, by omega⟩) | (show CDivW _ _; exact wide_div (b := 200) (by omega) (by assumption) (by decide) (by decide)) | (show CDivW _ _; exact wide_div (b := 31) (by omega) (by omega) (by decide) (by decide))))
  | with_reducible refine x_EqI ?_
  | with_reducible refine x_NeI ?_
  | ((with_reducible refine x_EqSt ?h ?_); (case h => decide +kernel))
  | ((with_reducible refine x_EqSf ?h ?_); (case h => decide +kernel))
  | ((with_reducible refine x_NeSt ?h ?_); (case h => decide +kernel))
  | ((with_reducible refine x_NeSf ?h ?_); (case h => decide +kernel))
  | with_reducible refine x_EqS ?_
  | with_reducible refine x_NeS ?_
  | ((with_reducible refine' x_ixL ?hq ?hi ?_); (case hq => walk_at "hk"); (case hi => first | exact rfl | assumption))
  | ((with_reducible refine' x_ixT ?hq ?hi ?_); (case hq => walk_at "hk"); (case hi => first | exact rfl | assumption))
  | with_reducible refine x_chain ?_
  | with_reducible refine x_tup ?_
  | with_reducible refine x_lst ?_
  | ((with_reducible refine x_lenNew ?hl ?_); (case hl => exact Nat.le_of_ble_eq_true rfl); intro _ _ _ _ _)
  | ((with_reducible refine x_new ?_); intro _ _ _ _ _)
  | with_reducible refine x_sl ?_
  | with_reducible refine x_noPart ?_
  | with_reducible refine x_part ?_
  | with_reducible refine x_ex_int ?_
  | with_reducible refine x_ex_bl ?_
  | with_reducible refine x_ex_2 ?_
  | with_reducible refine x_test ?_
  | with_reducible refine x_B ?_
  | with_reducible refine x_and ?_
  | with_reducible refine x_or ?_
  | with_reducible refine x_not ?_
  | with_reducible refine x_andV ?_
  | with_reducible refine x_orV ?_
  | with_reducible refine x_notV ?_
  | with_reducible refine x_ifE ?_
  | with_reducible refine x_iteT ?_
  | with_reducible refine x_iteF ?_
  | ((with_reducible refine x_iteD ?_ ?_) <;> intro _)
  | ((with_reducible refine x_iteN ?_ ?_) <;> intro _)
  | with_reducible refine x_if ?_
  | with_reducible refine x_seq ?_
  | with_reducible refine x_next ?_
  | with_reducible refine x_asg ?_
  | with_reducible refine x_gName ?_
  | ((with_reducible refine' x_gTup ?hq ?hn ?_); (case hq => walk_at "hk"); (case hn => exact rfl))
  | with_reducible refine x_gCons ?_
  | with_reducible refine x_gNil ?_
  | ((with_reducible refine' x_gConsE ?h ?_); (case h => exact rfl))
  | ((with_reducible refine x_gNilE ?h ?_); (case h => exact rfl))
  | with_reducible refine x_ret ?_
  | with_reducible refine x_drop ?_
  | with_reducible refine x_par ?_
  | ((with_reducible refine' x_aug ?hx ?_); (case hx => exact rfl))
  | with_reducible refine x_ipI ?_
  | with_reducible refine x_augS ?_
  | with_reducible refine x_gSub ?_
  | ((with_reducible refine' x_setL ?hq ?hi ?_); (case hq => walk_at "hk"); (case hi => first | exact rfl | assumption))
  | with_reducible refine x_cons ?_
  | with_reducible refine x_nil ?_
  | with_reducible refine x_CB ?_
  | with_reducible refine x_abs ?_
  | with_reducible refine x_intI ?_
  | with_reducible refine x_intB ?_
  | ((with_reducible refine' x_lenL ?hq ?_); (case hq => walk_at "hk"))
  | ((with_reducible refine' x_lenT ?hq ?_); (case hq => walk_at "hk"))
  | ((with_reducible refine x_iteTe ?h ?_); (case h => exact rfl))
  | ((with_reducible refine x_iteFe ?h ?_); (case h => exact rfl))
  | walk_at "use"
  | with_reducible refine x_callS ?_
  | ((with_reducible refine x_lc ?_))
  | ((with_reducible refine x_for ?_))
  | ((with_reducible refine x_iR1 ?_))
  | ((with_reducible refine x_iL ?_))
  | ((with_reducible refine x_iZ ?_))
  | ((with_reducible refine x_yes ?_))
  | ((with_reducible refine' x_NIDt ?hq ?_); (case hq => assumption))
  | ((with_reducible refine' x_NIDf ?hq ?_); (case hq => assumption))
  | ((with_reducible refine' x_IIDf ?hq ?_); (case hq => assumption))
  | ((with_reducible refine' x_IIDt ?hq ?_); (case hq => assumption))
  | ((with_reducible refine' x_ixDs ?hd ?hq ?_); (case hd => assumption); (case hq => assumption))
  | ((with_reducible refine x_InSt ?h ?_); (case h => decide +kernel))
  | ((with_reducible refine x_InSf ?h ?_); (case h => decide +kernel))
  | ((with_reducible refine' x_notInI ?hq ?_); (case hq => walk_at "hk"))
  | ((with_reducible refine' x_inTt ?hq ?hv ?ha ?he ?_); (case hq => walk_at "hk"); (case hv => exact rfl); (case ha => exact rfl); (case he => decide +kernel))
  | ((with_reducible refine' x_inTf ?hq ?hv ?ha ?he ?_); (case hq => walk_at "hk"); (case hv => exact rfl); (case ha => exact rfl); (case he => decide +kernel))
  | ((with_reducible refine' x_slT ?hq ?hw ?_); (case hq => walk_at "hk"); (case hw => with_unfolding_all exact of_decide_eq_true rfl))
  | ((with_reducible refine' x_slL ?hq ?_); (case hq => walk_at "hk"))
  | ((with_reducible refine' x_catT ?hq ?hr ?n1 ?n2 ?hl ?_); (case hq => walk_at "hk"); (case hr => walk_at "hk"); (case n1 => exact List.cons_ne_nil _ _); (case n2 => exact List.cons_ne_nil _ _); (case hl => exact Nat.le_of_ble_eq_true rfl))
  | ((with_reducible refine x_bm ?_))
  | ((with_reducible refine x_lstRg ?_))
  | ((with_reducible refine x_rg1 ?_))
  | ((with_reducible refine And.intro ?h ?_); (case h => exact tyL (by assumption)))
  | dsimp only)
local macro_rules | `(tactic| walk_at "use") => `(tactic| fail)
local macro_rules | `(tactic| walk_at "rd") => `(tactic| repeat' (walk_at "rd1"))
local macro_rules | `(tactic| walk_at "ex") => `(tactic| first | exact Ex.refl _ | assumption | (refine' Ex.trans ?he (by assumption); (case he => walk_at "ex")))
local macro_rules | `(tactic| walk_at "rd1") => `(tactic| first
  | ((with_reducible refine x_iteDf ?h ?_); (case h => exact rfl))
  | ((with_reducible refine x_iteDt ?h ?_); (case h => exact rfl))
  | ((with_reducible refine x_iteNf ?h ?_); (case h => exact rfl))
  | ((with_reducible refine x_iteNt ?h ?_); (case h => exact rfl))
  | ((with_reducible refine x_isiI (r := true) ?h ?_); (case h => decide +kernel))
  | ((with_reducible refine x_isiI (r := false) ?h ?_); (case h => decide +kernel))
  | ((with_reducible refine x_isiS (r := true) ?h ?_); (case h => decide +kernel))
  | ((with_reducible refine x_isiS (r := false) ?h ?_); (case h => decide +kernel))
  | ((with_reducible refine x_isiB (r := true) ?h ?_); (case h => decide +kernel))
  | ((with_reducible refine x_isiB (r := false) ?h ?_); (case h => decide +kernel))
  | ((with_reducible refine' x_isiT (r := true) ?hp ?h ?_); (case hp => walk_at "hk"); (case h => decide +kernel))
  | ((with_reducible refine' x_isiT (r := false) ?hp ?h ?_); (case hp => walk_at "hk"); (case h => decide +kernel))
  | ((with_reducible refine' x_isiL (r := true) ?hp ?h ?_); (case hp => walk_at "hk"); (case h => decide +kernel))
  | ((with_reducible refine' x_isiL (r := false) ?hp ?h ?_); (case hp => walk_at "hk"); (case h => decide +kernel))
  | ((with_reducible refine' x_isi2L ?hp ?hl ?_); (case hp => walk_at "hk"); (case hl => walk_at "hk"))
  | ((with_reducible refine' x_isi2T ?hp ?hl ?_); (case hp => walk_at "hk"); (case hl => walk_at "hk"))
  | ((with_reducible refine' x_tupOfL ?hq ?_); (case hq => walk_at "hk"))
  | ((with_reducible refine' x_tupOfT ?hq ?_); (case hq => walk_at "hk"))
  | ((with_reducible refine x_lenS ?h ?_); (case h => exact Nat.le_of_ble_eq_true rfl))
  | ((with_reducible refine' x_all ?hq ?_); (case hq => walk_at "hk"))
  | with_reducible refine x_lenSet ?_)

local macro_rules | `(tactic| walk_at "rd1") => `(tactic| with_reducible refine x_iT ?_)
local macro_rules | `(tactic| walk_at "use") => `(tactic| with_reducible refine u_is_files ?_)
local macro_rules | `(tactic| walk_at "use") => `(tactic| with_reducible refine u_is_index ?_)
/-- the fields of a Script -/
def flds (fl : Int) (t : Addr) : List (Str × V) := putF "held" (.ref t) (putF "width" (.int fl) [])
section
variable {P : Program} {w : World} {K : PySem.W.Frag} {mg : Str → Option Value} {base : Heap} {a : Ad} {H H1 : Hp} {Q : VK} {E : XK} {p b c t s dx : Addr} {fl : Int} {xs : List V} {qs : List C}
/-- things that are such calls -/
inductive Cls (H : Hp) : List V → List C → Prop
  | nil : Cls H [] []
  | cons {p : Addr} {q : C} {vs : List V} {qs : List C} (h : H p = some (.tup q.vals)) (t : Cls H vs qs) : Cls H (.ref p :: vs) (q :: qs)
theorem Cls.mono {vs : List V} {qs : List C} (t : Tx H H1) (h : Cls H vs qs) : Cls H1 vs qs := by
  induction h with
  | nil => exact .nil
  | cons h _ ih => exact .cons (t _ _ h) ih
theorem Cls.ex {vs : List V} {qs : List C} (e : Ex H H1) (h : Cls H vs qs) : Cls H1 vs qs := h.mono e.tx
theorem Cls.app {vs ws : List V} {qs us : List C} (h : Cls H vs qs) (h2 : Cls H ws us) : Cls H (vs ++ ws) (qs ++ us) := by
  induction h with
  | nil => exact h2
  | cons h _ ih => exact .cons h ih
theorem Cls.len {vs : List V} {qs : List C} (h : Cls H vs qs) : vs.length = qs.length := by
  induction h with
  | nil => rfl
  | cons _ _ ih => rw [List.length_cons, List.length_cons, ih]
theorem Cls.refs {vs : List V} {qs : List C} (h : Cls H vs qs) : ∀ v ∈ vs, ∃ a, v = V.ref a := by
  induction h with
  | nil => intro v hv; cases hv
  | cons _ _ ih =>
    intro v hv
    rcases List.mem_cons.mp hv with e | hv
    · exact ⟨_, e⟩
    · exact ih v hv
theorem Cls.nb {vs : List V} {qs : List C} (h : Cls H vs qs) : NB (.lst vs) := NB.refs h.refs
theorem Cls.get {vs : List V} {qs : List C} (h : Cls H vs qs) : ∀ {i : Nat} {v : V}, vs[i]? = some v → ∃ p q, v = .ref p ∧ qs[i]? = some q ∧ H p = some (.tup q.vals) := by
  induction h with
  | nil => intro i v e; simp at e
  | cons h _ ih =>
    intro i v e
    cases i with
    | zero => exact ⟨_, _, by simpa using e.symm, rfl, h⟩
    | succ i => exact ih (by simpa using e)
theorem Cls.take {vs : List V} {qs : List C} (h : Cls H vs qs) : ∀ n, Cls H (vs.take n) (qs.take n) := by
  induction h with
  | nil => intro n; simp; exact .nil
  | cons h _ ih =>
    intro n
    cases n with
    | zero => exact .nil
    | succ n => exact .cons h (ih n)
theorem Cls.drop {vs : List V} {qs : List C} (h : Cls H vs qs) : ∀ n, Cls H (vs.drop n) (qs.drop n) := by
  induction h with
  | nil => intro n; simp; exact .nil
  | cons h t ih =>
    intro n
    cases n with
    | zero => exact .cons h t
    | succ n => exact ih n
theorem Cls.rev {vs : List V} {qs : List C} (h : Cls H vs qs) : Cls H vs.reverse qs.reverse := by
  induction h with
  | nil => exact .nil
  | cons h _ ih =>
    rw [List.reverse_cons, List.reverse_cons]
    exact ih.app (.cons h .nil)
theorem Cls.one {vs : List V} {q : C} {p : Addr} (h : Cls H vs qs) (hp : H p = some (.tup q.vals)) : Cls H (vs ++ [.ref p]) (qs ++ [q]) := h.app (.cons hp .nil)
/-- a Script that stands -/
structure Scr (C : Addr) (H : Hp) (s : Addr) (fl : Int) (qs : List My.C) : Prop where
  ex : ∃ (dx t : Addr) (xs : List V), H s = some (.ins C dx (flds fl t)) ∧ H t = some (.tup xs) ∧ Cls H xs qs
theorem Scr.mono {C : Addr} (h : Scr C H s fl qs) (e : Ex H H1) : Scr C H1 s fl qs := by
  obtain ⟨dx, t, xs, h1, h2, h3⟩ := h.ex
  exact ⟨dx, t, xs, e.kp _ _ h1 NB.ins, e.kp _ _ h2 NB.tup, h3.ex e⟩
/-- a list or a tuple of calls -/
def CSeq (H : Hp) (c : Addr) (qs : List C) : Prop := ∃ xs, (H c = some (.lst xs) ∨ H c = some (.tup xs)) ∧ Cls H xs qs
/-! Script(files, calls) of genuine calls -/
def sp_Script_init (C : Addr) : Sp := fun vs H Q _ => ∃ (H0 : Hp) (x dx c : Addr) (fl : Int) (qs : List My.C), vs = [.ref x, .int fl, .ref c] ∧ H = upd (upd H0 dx (.own x)) x (.ins C dx []) ∧ H0 x = none ∧ H0 dx = none ∧ dx ≠ x ∧
  2 ≤ fl ∧ fl ≤ 3 ∧ CSeq H0 c qs ∧ (∀ q ∈ qs, q.Good fl) ∧ qs.length ≤ 100000 ∧ ∀ H1, Ex H0 H1 → Scr C H1 x fl qs → Q .non H1
theorem u_make {C : Addr} {Q : Addr → Hp → Prop} (hc : CSeq H c qs) (hg : ∀ q ∈ qs, q.Good fl) (h2 : 2 ≤ fl) (h3 : fl ≤ 3) (hl : qs.length ≤ 100000) (k : ∀ x H1, Ex H H1 → Scr C H1 x fl qs → Q x H1) :
    ∀ x dx, H x = none → H dx = none → dx ≠ x → sp_Script_init C (.ref x :: [.int fl, .ref c]) (upd (upd H dx (.own x)) x (.ins C dx [])) (fun v H2 => v = .non ∧ Q x H2) E :=
  fun x dx hx hdx hn => ⟨H, x, dx, c, fl, qs, rfl, rfl, hx, hdx, hn, h2, h3, hc, hg, hl, fun H1 e h1 => ⟨rfl, k x H1 e h1⟩⟩
theorem ok_Script_init (T : Txt K w mg a) : FnOk P w K mg base CX0 5 a.a_Script_init a.fd_Script_init ["self", "files", "calls"] (sp_Script_init a.c_Script) := by
  refine T.F_Script_init.ok sc_Script_init (fun vs H Q E h => ?_) (fun cdv A outer s H vs Q E hr h => ?_)
  · obtain ⟨H0, x, dx, c, fl, xs, rfl, _⟩ := h; rfl
  · obtain ⟨H0, x, dx, c, fl, qs, rfl, rfl, hx, hdx, hn, h2, h3, ⟨xs, hc, hcl⟩, hg, hl, k⟩ := h
    have hx1 : (upd H0 dx (.own x)) x = none := by rw [upd_ne hn.symm]; exact hx
    have e0 : Ex H0 (upd (upd H0 dx (.own x)) x (.ins a.c_Script dx [])) := (Ex.new hdx).trans (Ex.new hx1)
    have G_is_files := ok_is_files (P := P) (base := base) T
    have G_is_call := ok_is_call (P := P) (base := base) T
    have hxI : (upd (upd H0 dx (.own x)) x (.ins a.c_Script dx [])) x = some (.ins a.c_Script dx []) := upd_same
    have hlx : xs.length ≤ 100000 := by rw [hcl.len]; exact hl
    have fin : ∀ (H2 : Hp) (t : Addr), Ex H0 H2 → H2 x = some (.ins a.c_Script dx (putF "width" (.int fl) [])) → H2 t = some (.tup xs) → t ≠ x → Q .non (upd H2 x (.ins a.c_Script dx (flds fl t))) := fun H2 t e i1 i2 ne => by
      have ex : Ex H0 (upd H2 x (.ins a.c_Script dx (flds fl t))) := Ex.mut e hx
      exact k _ ex ⟨dx, t, xs, upd_same, by rw [upd_ne ne]; exact i2, hcl.ex ex⟩
    rcases hc with hc | hc
    · have nbx := hcl.nb
      have hcI := e0.kp _ _ hc nbx
      have hcx : c ≠ x := ne_of_none hc hx
      generalize (upd (upd H0 dx (.own x)) x (.ins a.c_Script dx [])) = HI at e0 hxI hcI ⊢
      refine ⟨_, (pss_cons (ps_if (pt_not (pt_val (pe_call G_is_files (hr.mono (by decide)) (by rfl) T.m_is_files T.k_is_files T.b_is_files .nil pass0 (pa_cons (pv 1) pa_nil)))) (pss_one ps_never) pss_nil)
      (pss_cons (ps_if (pt_not (pt_val (pe_callB call_isiT (by rfl) T.n_isinstance (by decide +kernel) (pa_cons (pv 2) (pa_cons (pe_tup (pa_cons (pe_bltn (v := .ty "list") (u := .type "list") (by rfl) T.n_list (by decide +kernel) rfl) (pa_cons (pe_bltn (v := .ty "tuple") (u := .type "tuple") (by rfl) T.n_tuple (by decide +kernel) rfl) pa_nil))) pa_nil))))) (pss_one ps_never) pss_nil)
      (pss_cons (ps_if (pt_not (pt_val (pe_callB (cr_all rfl) (by rfl) T.n_all (by decide +kernel) (pa_cons (pe_lc (own := [("call", 3)]) rfl sc_Script_init.nd (pi_list (pv 2)) (blkOk_by (own := [("call", 3)]) (N := ["self", "files", "calls", "call"]) (sc := defScope s_Script_init) (by decide +kernel)) (fun _ _ _ _ _ => (pg_name (i := 3) sc_Script_init.nd rfl (Or.inl rfl) (Or.inr rfl))) (fun _ _ _ _ _ => pts_nil) (fun _ _ _ _ _ => (pe_call G_is_call (hr.mono (by decide)) (by rfl) T.m_is_call T.k_is_call T.b_is_call .nil pass0 (pa_cons (pv 1) (pa_cons (pv 3) pa_nil))))) pa_nil)))) (pss_one ps_never) pss_nil)
      (pss_cons (ps_fld (pv 0) (pv 1) rfl)
      (pss_one (ps_fld (pv 0) (pe_callTy c_tupOf (by rfl) T.n_tuple (by decide +kernel) (pa_cons (pv 2) pa_nil)) rfl)))))), ?_⟩
      walk_at "rd"
      all_goals try (exfalso; omega)
      rename_i p1 H1 e1 f1 h1
      refine lc_lst (xs := xs) (by walk_at "hk") hcl.nb (fun i acc _ => acc = List.replicate i (.bl true) ∧ i ≤ xs.length) ⟨rfl, Nat.zero_le _⟩ (fun _ _ _ _ _ h => h) (fun i acc _ h => ?_) (fun x => rfl) (fun i y acc H' hy e hI kk k1 k2 => ?_) (fun p2 ys H2 e2 f2 h2' hI => ?_)
      · obtain ⟨rfl, hi⟩ := h
        refine ⟨?_, by rw [List.length_replicate]; exact Nat.lt_of_le_of_lt (Nat.le_trans hi hlx) (by decide)⟩
        rw [show List.replicate i (V.bl true) = (List.replicate i true).map V.bl by rw [List.map_replicate]]
        exact NB.bls
      · obtain ⟨rfl, hi⟩ := hI
        obtain ⟨p, q, rfl, hq, hp⟩ := hcl.get hy
        have hi' := (List.getElem?_eq_some_iff.mp hy).1
        walk_at "rd"
        refine u_is_call (((e0.trans e1).trans e).kp _ _ hp NB.tup) (hg q (List.mem_of_getElem? hq)) fun H4 e4 => ?_
        exact k1 _ _ e4 ⟨by rw [List.replicate_succ'], hi'⟩
      · obtain ⟨rfl, hi⟩ := hI
        walk_at "rd"
        refine x_allT h2' ?_
        walk_at "rd"
        have hx2 := (e1.trans e2).kp _ _ hxI NB.ins
        have hc2 := (e1.trans e2).kp _ _ hcI hcl.nb
        have e3 : Ex H0 H2 := (e0.trans e1).trans e2
        refine x_setF ?_
        walk_at "rd"
        refine x_setK hx2 T.t_Script.cl T.A_Script_width (by decide) ?_
        walk_at "rd"
        refine x_setF ?_
        walk_at "rd"
        rename_i t H5 e5 f5 h5
        have e6 : Ex H0 (upd H2 x (.ins a.c_Script dx (putF "width" (.int fl) []))) := Ex.mut e3 hx
        refine x_setK (e5.kp _ _ upd_same NB.ins) T.t_Script.cl T.A_Script_held (Nat.lt_of_le_of_lt (length_putF _ _ _) (by show 0 + 1 < 1000; decide)) ?_
        refine fin _ t (e6.trans e5) (e5.kp _ _ upd_same NB.ins) h5 fun e => ?_
        rw [e, upd_same] at f5
        cases f5
    · have hcI := e0.kp _ _ hc NB.tup
      have hcx : c ≠ x := ne_of_none hc hx
      generalize (upd (upd H0 dx (.own x)) x (.ins a.c_Script dx [])) = HI at e0 hxI hcI ⊢
      refine ⟨_, (pss_cons (ps_if (pt_not (pt_val (pe_call G_is_files (hr.mono (by decide)) (by rfl) T.m_is_files T.k_is_files T.b_is_files .nil pass0 (pa_cons (pv 1) pa_nil)))) (pss_one ps_never) pss_nil)
      (pss_cons (ps_if (pt_not (pt_val (pe_callB call_isiT (by rfl) T.n_isinstance (by decide +kernel) (pa_cons (pv 2) (pa_cons (pe_tup (pa_cons (pe_bltn (v := .ty "list") (u := .type "list") (by rfl) T.n_list (by decide +kernel) rfl) (pa_cons (pe_bltn (v := .ty "tuple") (u := .type "tuple") (by rfl) T.n_tuple (by decide +kernel) rfl) pa_nil))) pa_nil))))) (pss_one ps_never) pss_nil)
      (pss_cons (ps_if (pt_not (pt_val (pe_callB (cr_all rfl) (by rfl) T.n_all (by decide +kernel) (pa_cons (pe_lc (own := [("call", 3)]) rfl sc_Script_init.nd (pi_tup (pv 2)) (blkOk_by (own := [("call", 3)]) (N := ["self", "files", "calls", "call"]) (sc := defScope s_Script_init) (by decide +kernel)) (fun _ _ _ _ _ => (pg_name (i := 3) sc_Script_init.nd rfl (Or.inl rfl) (Or.inr rfl))) (fun _ _ _ _ _ => pts_nil) (fun _ _ _ _ _ => (pe_call G_is_call (hr.mono (by decide)) (by rfl) T.m_is_call T.k_is_call T.b_is_call .nil pass0 (pa_cons (pv 1) (pa_cons (pv 3) pa_nil))))) pa_nil)))) (pss_one ps_never) pss_nil)
      (pss_cons (ps_fld (pv 0) (pv 1) rfl)
      (pss_one (ps_fld (pv 0) (pe_callTy c_tupOf (by rfl) T.n_tuple (by decide +kernel) (pa_cons (pv 2) pa_nil)) rfl)))))), ?_⟩
      walk_at "rd"
      all_goals try (exfalso; omega)
      rename_i p1 H1 e1 f1 h1
      refine lc_tup (xs := xs) (by walk_at "hk") (fun i acc _ => acc = List.replicate i (.bl true) ∧ i ≤ xs.length) ⟨rfl, Nat.zero_le _⟩ (fun _ _ _ _ _ h => h) (fun i acc _ h => ?_) (fun x => rfl) (fun i y acc H' hy e hI kk k1 k2 => ?_) (fun p2 ys H2 e2 f2 h2' hI => ?_)
      · obtain ⟨rfl, hi⟩ := h
        refine ⟨?_, by rw [List.length_replicate]; exact Nat.lt_of_le_of_lt (Nat.le_trans hi hlx) (by decide)⟩
        rw [show List.replicate i (V.bl true) = (List.replicate i true).map V.bl by rw [List.map_replicate]]
        exact NB.bls
      · obtain ⟨rfl, hi⟩ := hI
        obtain ⟨p, q, rfl, hq, hp⟩ := hcl.get hy
        have hi' := (List.getElem?_eq_some_iff.mp hy).1
        walk_at "rd"
        refine u_is_call (((e0.trans e1).trans e).kp _ _ hp NB.tup) (hg q (List.mem_of_getElem? hq)) fun H4 e4 => ?_
        exact k1 _ _ e4 ⟨by rw [List.replicate_succ'], hi'⟩
      · obtain ⟨rfl, hi⟩ := hI
        walk_at "rd"
        refine x_allT h2' ?_
        walk_at "rd"
        have hx2 := (e1.trans e2).kp _ _ hxI NB.ins
        have hc2 := (e1.trans e2).kp _ _ hcI NB.tup
        have e3 : Ex H0 H2 := (e0.trans e1).trans e2
        refine x_setF ?_
        walk_at "rd"
        refine x_setK hx2 T.t_Script.cl T.A_Script_width (by decide) ?_
        walk_at "rd"
        refine x_setF ?_
        walk_at "rd"
        have e6 : Ex H0 (upd H2 x (.ins a.c_Script dx (putF "width" (.int fl) []))) := Ex.mut e3 hx
        refine x_setK upd_same T.t_Script.cl T.A_Script_held (Nat.lt_of_le_of_lt (length_putF _ _ _) (by show 0 + 1 < 1000; decide)) ?_
        exact fin _ c e6 upd_same (by rw [upd_ne hcx]; exact hc2) hcx
end
end My

set_option Elab.async false
set_option linter.all false
set_option maxRecDepth 100000
set_option maxHeartbeats 8000000
namespace My
open PySem PySem.Spec PyProof.Rows L2 Sx
local macro_rules | `(tactic| walk_at "nb") => `(tactic| first | exact NB.tup | exact NB.ints | exact NB.len (of_decide_eq_true rfl) | exact NB.at0b rfl | exact NB.at3b rfl | exact NB.ins | exact NB.own | exact NB.frz | exact NB.refs (by assumption) | assumption)
local macro_rules | `(tactic| walk_at "ne") => `(tactic| first | assumption | exact Ne.symm (by assumption) | exact ne_of_none (by assumption) (by assumption) | exact Ne.symm (ne_of_none (by assumption) (by assumption)))
local macro_rules | `(tactic| walk_at "hk") => `(tactic| first
  | assumption
  | exact upd_same
  | (refine' (upd_ne ?hkne).trans ?hkq; (case hkne => walk_at "ne"); (case hkq => walk_at "hk"))
  | (refine' Ex.kp (by assumption) _ _ ?hkq ?hkn; (case hkq => walk_at "hk"); (case hkn => walk_at "nb")))
local macro_rules | `(tactic| walk_at "rd1") => `(tactic| first
  | ((with_reducible refine' x_var ?hx ?_); (case hx => exact rfl))
  | with_reducible refine x_c ?_
  | with_reducible refine x_op ?_
  | with_reducible refine x_un ?_
  | with_reducible refine x_I0 ?_
  | with_reducible refine x_U ?_
  | ((with_reducible refine x_I ?hc ?_); (case hc => first | exact (by decide : (0 : Int) < _) | (show (0 : Int) < _; omega) | (show CMul _ _; first | exact .inl ⟨by omega, by omega⟩ | exact .inr ⟨by omega, by omega⟩) | (show CDiv _ _; exact ⟨by omega, by omega⟩) | (show CDivW _ _; exact wide_div (b := 200) (by omega) (by assumption) (by decide) (by decide)) | (show CDivW _ _; exact wide_div (b := 31) (by omega) (by omega) (by decide) (by decide))))
  | with_reducible refine x_EqI ?_
  | with_reducible refine x_NeI ?_
  | ((with_reducible refine x_EqSt ?h ?_); (case h => decide +kernel))
  | ((with_reducible refine x_EqSf ?h ?_); (case h => decide +kernel))
  | ((with_reducible refine x_NeSt ?h ?_); (case h => decide +kernel))
  | ((with_reducible refine x_NeSf ?h ?_); (case h => decide +kernel))
  | with_reducible refine x_EqS ?_
  | with_reducible refine x_NeS ?_
  | ((with_reducible refine' x_ixL ?hq ?hi ?_); (case hq => walk_at "hk"); (case hi => first | exact rfl | assumption))
  | ((with_reducible refine' x_ixT ?hq ?hi ?_); (case hq => walk_at "hk"); (case hi => first | exact rfl | assumption))
  | with_reducible refine x_chain ?_
  | with_reducible refine x_tup ?_
  | with_reducible refine x_lst ?_
  | ((with_reducible refine x_lenNew ?hl ?_); (case hl => exact Nat.le_of_ble_eq_true rfl); intro _ _ _ _ _)
  | ((with_reducible refine x_new ?_); intro _ _ _ _ _)
  | with_reducible refine x_sl ?_
  | with_reducible refine x_noPart ?_
  | with_reducible refine x_part ?_
  | with_reducible refine x_ex_int ?_
  | with_reducible refine x_ex_bl ?_
  | with_reducible refine x_ex_2 ?_
  | with_reducible refine x_test ?_
  | with_reducible refine x_B ?_
  | with_reducible refine x_and ?_
  | with_reducible refine x_or ?_
  | with_reducible refine x_not ?_
  | with_reducible refine x_andV ?_
  | with_reducible refine x_orV ?_
  | with_reducible refine x_notV ?_
  | with_reducible refine x_ifE ?_
  | with_reducible refine x_iteT ?_
  | with_reducible refine x_iteF ?_
  | ((with_reducible refine x_iteD ?_ ?_) <;> intro _)
  | ((with_reducible refine x_iteN ?_ ?_) <;> intro _)
  | with_reducible refine x_if ?_
  | with_reducible refine x_seq ?_
  | with_reducible refine x_next ?_
  | with_reducible refine x_asg ?_
  | with_reducible refine x_gName ?_
  | ((with_reducible refine' x_gTup ?hq ?hn ?_); (case hq => walk_at "hk"); (case hn => exact rfl))
  | with_reducible refine x_gCons ?_
  | with_reducible refine x_gNil ?_
  | ((with_reducible refine' x_gConsE ?h ?_); (case h => exact rfl))
  | ((with_reducible refine x_gNilE ?h ?_); (case h => exact rfl))
  | with_reducible refine x_ret ?_
  | with_reducible refine x_drop ?_
  | with_reducible refine x_par ?_
  | ((with_reducible refine' x_aug ?hx ?_); (case hx => exact rfl))
  | with_reducible refine x_ipI ?_
  | with_reducible refine x_augS ?_
  | with_reducible refine x_gSub ?_
  | ((with_reducible refine' x_setL ?hq ?hi ?_); (case hq => walk_at "hk"); (case hi => first | exact rfl | assumption))
  | with_reducible refine x_cons ?_
  | with_reducible refine x_nil ?_
  | with_reducible refine x_CB ?_
  | with_reducible refine x_abs ?_
  | with_reducible refine x_intI ?_
  | with_reducible refine x_intB ?_
  | ((with_reducible refine' x_lenL ?hq ?_); (case hq => walk_at "hk"))
  | ((with_reducible refine' x_lenT ?hq ?_); (case hq => walk_at "hk"))
  | ((with_reducible refine x_iteTe ?h ?_); (case h => exact rfl))
  | ((with_reducible refine x_iteFe ?h ?_); (case h => exact rfl))
  | walk_at "use"
  | with_reducible refine x_callS ?_
  | ((with_reducible refine x_lc ?_))
  | ((with_reducible refine x_for ?_))
  | ((with_reducible refine x_iR1 ?_))
  | ((with_reducible refine x_iL ?_))
  | ((with_reducible refine x_iZ ?_))
  | ((with_reducible refine x_yes ?_))
  | ((with_reducible refine' x_NIDt ?hq ?_); (case hq => assumption))
  | ((with_reducible refine' x_NIDf ?hq ?_); (case hq => assumption))
  | ((with_reducible refine' x_IIDf ?hq ?_); (case hq => assumption))
  | ((with_reducible refine' x_IIDt ?hq ?_); (case hq => assumption))
  | ((with_reducible refine' x_ixDs ?hd ?hq ?_); (case hd => assumption); (case hq => assumption))
  | ((with_reducible refine x_InSt ?h ?_); (case h => decide +kernel))
  | ((with_reducible refine x_InSf ?h ?_); (case h => decide +kernel))
  | ((with_reducible refine' x_notInI ?hq ?_); (case hq => walk_at "hk"))
  | ((with_reducible refine' x_inTt ?hq ?hv ?ha ?he ?_); (case hq => walk_at "hk"); (case hv => exact rfl); (case ha => exact rfl); (case he => decide +kernel))
  | ((with_reducible refine' x_inTf ?hq ?hv ?ha ?he ?_); (case hq => walk_at "hk"); (case hv => exact rfl); (case ha => exact rfl); (case he => decide +kernel))
  | ((with_reducible refine' x_slT ?hq ?hw ?_); (case hq => walk_at "hk"); (case hw => with_unfolding_all exact of_decide_eq_true rfl))
  | ((with_reducible refine' x_slL ?hq ?_); (case hq => walk_at "hk"))
  | ((with_reducible refine' x_catT ?hq ?hr ?n1 ?n2 ?hl ?_); (case hq => walk_at "hk"); (case hr => walk_at "hk"); (case n1 => exact List.cons_ne_nil _ _); (case n2 => exact List.cons_ne_nil _ _); (case hl => exact Nat.le_of_ble_eq_true rfl))
  | ((with_reducible refine x_bm ?_))
  | ((with_reducible refine x_lstRg ?_))
  | ((with_reducible refine x_rg1 ?_))
  | ((with_reducible refine And.intro ?h ?_); (case h => exact tyL (by assumption)))
  | dsimp only)
local macro_rules | `(tactic| walk_at "use") => `(tactic| fail)
local macro_rules | `(tactic| walk_at "rd") => `(tactic| repeat' (walk_at "rd1"))
local macro_rules | `(tactic| walk_at "ex") => `(tactic| first | exact Ex.refl _ | assumption | (refine' Ex.trans ?he (by assumption); (case he => walk_at "ex")))
local macro_rules | `(tactic| walk_at "rd1") => `(tactic| first
  | ((with_reducible refine x_iteDf ?h ?_); (case h => exact rfl))
  | ((with_reducible refine x_iteDt ?h ?_); (case h => exact rfl))
  | ((with_reducible refine x_iteNf ?h ?_); (case h => exact rfl))
  | ((with_reducible refine x_iteNt ?h ?_); (case h => exact rfl))
  | ((with_reducible refine x_isiI (r := true) ?h ?_); (case h => decide +kernel))
  | ((with_reducible refine x_isiI (r := false) ?h ?_); (case h => decide +kernel))
  | ((with_reducible refine x_isiS (r := true) ?h ?_); (case h => decide +kernel))
  | ((with_reducible refine x_isiS (r := false) ?h ?_); (case h => decide +kernel))
  | ((with_reducible refine x_isiB (r := true) ?h ?_); (case h => decide +kernel))
  | ((with_reducible refine x_isiB (r := false) ?h ?_); (case h => decide +kernel))
  | ((with_reducible refine' x_isiT (r := true) ?hp ?h ?_); (case hp => walk_at "hk"); (case h => decide +kernel))
  | ((with_reducible refine' x_isiT (r := false) ?hp ?h ?_); (case hp => walk_at "hk"); (case h => decide +kernel))
  | ((with_reducible refine' x_isiL (r := true) ?hp ?h ?_); (case hp => walk_at "hk"); (case h => decide +kernel))
  | ((with_reducible refine' x_isiL (r := false) ?hp ?h ?_); (case hp => walk_at "hk"); (case h => decide +kernel))
  | ((with_reducible refine' x_isi2L ?hp ?hl ?_); (case hp => walk_at "hk"); (case hl => walk_at "hk"))
  | ((with_reducible refine' x_isi2T ?hp ?hl ?_); (case hp => walk_at "hk"); (case hl => walk_at "hk"))
  | ((with_reducible refine' x_tupOfL ?hq ?_); (case hq => walk_at "hk"))
  | ((with_reducible refine' x_tupOfT ?hq ?_); (case hq => walk_at "hk"))
  | ((with_reducible refine x_lenS ?h ?_); (case h => exact Nat.le_of_ble_eq_true rfl))
  | ((with_reducible refine' x_all ?hq ?_); (case hq => walk_at "hk"))
  | with_reducible refine x_lenSet ?_)

local macro_rules | `(tactic| walk_at "rd1") => `(tactic| first
  | with_reducible refine x_iT ?_
  | with_reducible refine x_fld ?_
  | ((with_reducible refine' x_fldK ?h ?c ?n ?l ?_); (case h => walk_at "hk"); (case c => assumption); (case n => assumption); (case l => first | exact rfl | assumption)))
local macro_rules | `(tactic| walk_at "use") => `(tactic| first | with_reducible refine u_is_index ?_ | with_reducible refine u_is_indexI ?_)
section
variable {P : Program} {w : World} {K : PySem.W.Frag} {mg : Str → Option Value} {base : Heap} {a : Ad} {H H1 : Hp} {Q : VK} {E : XK} {p b c t s dx : Addr} {fl gl : Int} {xs : List V} {qs us : List C} {CS : Addr}
open Er
/-! the calls as data -/
theorem toD_dp {v : V} (h : (∃ i, v = .int i) ∨ ∃ z, v = .str z) : Dp K H v (toD v) := by
  rcases h with ⟨i, rfl⟩ | ⟨z, rfl⟩
  · exact .int i
  · exact .str z
theorem C.dp {q : C} (h : H p = some (.tup q.vals)) : Dp K H (.ref p) (qd q) := by
  refine .tup (SqT.of h) ?_
  cases q <;> simp only [C.vals, List.map_cons, List.map_nil] <;> repeat' (first | exact .nil | refine .cons (toD_dp (by first | exact .inl ⟨_, rfl⟩ | exact .inr ⟨_, rfl⟩)) ?_)
def eqQ (qs us : List C) : Bool := PyData.eqv (.tuple (qs.map qd)) (.tuple (us.map qd))
/-! files -/
def sp_Script_files (CS : Addr) : Sp := fun vs H Q _ => ∃ (s : Addr) (fl : Int) (qs : List My.C), vs = [.ref s] ∧ Scr CS H s fl qs ∧ Q (.int fl) H
theorem ok_Script_files (T : Txt K w mg a) : FnOk P w K mg base CX0 1 a.a_Script_files a.fd_Script_files ["self"] (sp_Script_files a.c_Script) := by
  refine T.F_Script_files.ok sc_Script_files (fun vs H Q E h => ?_) (fun cdv A outer s H vs Q E hr h => ?_)
  · obtain ⟨s, fl, qs, rfl, _⟩ := h; rfl
  · obtain ⟨s, fl, qs, rfl, ⟨dx, t, xs, h1, h2, h3⟩, k⟩ := h
    have cl := T.t_Script.cl
    have nw := T.A_Script_width
    refine ⟨_, (pss_one (ps_ret (pe_fld (pv 0) rfl))), ?_⟩
    walk_at "rd"
    exact k
/-! size -/
/-! calls() -/
def sp_Script_calls (CS : Addr) : Sp := fun vs H Q _ => ∃ (s : Addr) (fl : Int) (qs : List My.C), vs = [.ref s] ∧ Scr CS H s fl qs ∧ ∀ p xs H1, Ex H H1 → H p = none → H1 p = some (.lst xs) → Cls H1 xs qs → Q (.ref p) H1
theorem ok_Script_calls (T : Txt K w mg a) : FnOk P w K mg base CX0 1 a.a_Script_calls a.fd_Script_calls ["self"] (sp_Script_calls a.c_Script) := by
  refine T.F_Script_calls.ok sc_Script_calls (fun vs H Q E h => ?_) (fun cdv A outer s H vs Q E hr h => ?_)
  · obtain ⟨s, fl, qs, rfl, _⟩ := h; rfl
  · obtain ⟨s, fl, qs, rfl, ⟨dx, t, xs, h1, h2, h3⟩, k⟩ := h
    have cl := T.t_Script.cl
    have nh := T.A_Script_held
    refine ⟨_, (pss_one (ps_ret (pe_callTy c_listOf (by rfl) T.n_list (by decide +kernel) (pa_cons (pe_fld (pv 0) rfl) pa_nil)))), ?_⟩
    walk_at "rd"
    refine ⟨t, xs, rfl, .inr (SqT.of h2), fun p hp => ?_⟩
    have e := Ex.new (o := .lst xs) hp
    exact k p xs _ e hp upd_same (h3.ex e)
/-! call_at(i) within -/
def sp_Script_len (K : PySem.W.Frag) (CS : Addr) : Sp := fun vs H Q _ => ∃ (s dx t : Addr) (fl : Int) (xs : List V), vs = [.ref s] ∧ H s = some (.ins CS dx (flds fl t)) ∧ SqT K H t xs ∧ Q (.int xs.length) H
/-! == -/
/-! iter -/
theorem it_Script (T : Txt K w mg a) : Ow.ItDef P w K mg base 1 a.c_Script a.a_Script_iter "held" "Script.__iter__" s_Script_iter ["self"] := by
  intro cdv A outer s H E o dx fs l zs Q hr h1 h2 h3 k
  have cl := T.t_Script.cl
  have nh := T.A_Script_held
  refine ⟨_, (pss_one (ps_ret (pe_callB Ow.call_iterT (by rfl) T.n_iter (by decide +kernel) (pa_cons (pe_fld (pv 0) rfl) pa_nil)))), ?_⟩
  walk_at "rd"
  exact ⟨l, zs, rfl, h3, fun it n o => k it n o⟩
/-! == -/
/-! calls of methods, properties, and built-ins on a Script -/
theorem x_methS {m : Str} {sp : Sp} {ta : TA} {σ : L2.St} (h : Scr CS H s fl qs) (l : ∀ fl t, (flds fl t).lookup m = none) (k : ta σ H fun vs H2 => sp (.ref s :: vs) H2 Q E) : Ow.MethK CS m sp E ta σ (.ref s) H Q := by
  obtain ⟨dx, t, xs, h1, _⟩ := h
  exact ⟨s, dx, _, rfl, h1, l _ _, k⟩
theorem x_propS {sp : Sp} (h : Scr CS H s fl qs) (k : sp [.ref s] H Q E) : Ow.PropK CS sp E (.ref s) H Q := by
  obtain ⟨dx, t, xs, h1, _⟩ := h
  exact ⟨s, dx, _, rfl, h1, k⟩
theorem x_iOwnS {R : It → Hp → Prop} (h : Scr CS H s fl qs) (k : ∀ (t : Addr) (xs : List V), H t = some (.tup xs) → My.Cls H xs qs → R (Itt K t) H) : Ow.IOwnK K CS "held" (.ref s) H R := by
  obtain ⟨dx, t, xs, h1, h2, h3⟩ := h
  exact ⟨s, dx, _, t, xs, rfl, h1, rfl, SqT.of h2, k t xs h2 h3⟩
theorem u_sfiles (h : Scr CS H s fl qs) (k : Q (.int fl) H) : sp_Script_files CS [.ref s] H Q E := ⟨s, fl, qs, rfl, h, k⟩
theorem u_scalls (h : Scr CS H s fl qs) (k : ∀ p xs H1, Ex H H1 → H p = none → H1 p = some (.lst xs) → My.Cls H1 xs qs → Q (.ref p) H1) : sp_Script_calls CS [.ref s] H Q E := ⟨s, fl, qs, rfl, h, k⟩
theorem x_lenS' {X : Cx} {E : XK} {K' : PySem.W.Frag} (eK : X.K = K') (h : Scr CS H s fl qs) (hl : qs.length ≤ 100000) (k : Q (.int qs.length) H) : Ow.rLenC X CS (sp_Script_len K' CS) E [.ref s] H Q := by
  subst eK
  obtain ⟨dx, t, xs, h1, h2, h3⟩ := h
  exact Ow.x_lenC h1 ⟨s, dx, t, fl, xs, rfl, h1, SqT.of h2, xs.length, rfl, by omega, by rw [h3.len]; exact Int.lt_of_le_of_lt (show (qs.length : Int) ≤ 100000 by omega) (by decide), by rw [h3.len]; exact k⟩
theorem x_listS {X : Cx} {K' : PySem.W.Frag} (eK : X.K = K') (h : Scr CS H s fl qs) (k : ∀ p xs H1, Ex H H1 → H p = none → H1 p = some (.lst xs) → My.Cls H1 xs qs → Q (.ref p) H1) : Ow.rListC X CS "held" (sp_Script_len K' CS) [.ref s] H Q := by
  subst eK
  obtain ⟨dx, t, xs, h1, h2, h3⟩ := h
  exact Ow.x_listC h1 rfl (SqT.of h2) (fun H1 g1 g2 => ⟨s, dx, t, fl, xs, rfl, g1, g2, rfl, rfl⟩) fun p H1 e f g => k p xs H1 e f g (h3.ex e)
end
end My

set_option Elab.async false
set_option linter.all false
set_option maxRecDepth 100000
set_option maxHeartbeats 8000000
namespace My
open PySem PySem.Spec PyProof.Rows L2 Sx
local macro_rules | `(tactic| walk_at "nb") => `(tactic| first | exact NB.tup | exact NB.ints | exact NB.len (of_decide_eq_true rfl) | exact NB.at0b rfl | exact NB.at3b rfl | exact NB.ins | exact NB.own | exact NB.frz | exact NB.refs (by assumption) | assumption)
local macro_rules | `(tactic| walk_at "ne") => `(tactic| first | assumption | exact Ne.symm (by assumption) | exact ne_of_none (by assumption) (by assumption) | exact Ne.symm (ne_of_none (by assumption) (by assumption)))
local macro_rules | `(tactic| walk_at "hk") => `(tactic| first
  | assumption
  | exact upd_same
  | (refine' (upd_ne ?hkne).trans ?hkq; (case hkne => walk_at "ne"); (case hkq => walk_at "hk"))
  | (refine' Ex.kp (by assumption) _ _ ?hkq ?hkn; (case hkq => walk_at "hk"); (case hkn => walk_at "nb")))
local macro_rules | `(tactic| walk_at "rd1") => `(tactic| first
  | ((with_reducible refine' x_var ?hx ?_); (case hx => exact rfl))
  | with_reducible refine x_c ?_
  | with_reducible refine x_op ?_
  | with_reducible refine x_un ?_
  | with_reducible refine x_I0 ?_
  | with_reducible refine x_U ?_
  | ((with_reducible refine x_I ?hc ?_); (case hc => first | exact (by decide : (0 : Int) < _) | (show (0 : Int) < _; omega) | (show CMul _ _; first | exact .inl ⟨by omega, by omega⟩ | exact .inr ⟨by omega, by omega⟩) | (show CDiv _ _; exact ⟨by omega, by omega⟩) | (show CDivW _ _; exact wide_div (b := 200) (by omega) (by assumption) (by decide) (by decide)) | (show CDivW _ _; exact wide_div (b := 31) (by omega) (by omega) (by decide) (by decide))))
  | with_reducible refine x_EqI ?_
  | with_reducible refine x_NeI ?_
  | ((with_reducible refine x_EqSt ?h ?_); (case h => decide +kernel))
  | ((with_reducible refine x_EqSf ?h ?_); (case h => decide +kernel))
  | ((with_reducible refine x_NeSt ?h ?_); (case h => decide +kernel))
  | ((with_reducible refine x_NeSf ?h ?_); (case h => decide +kernel))
  | with_reducible refine x_EqS ?_
  | with_reducible refine x_NeS ?_
  | ((with_reducible refine' x_ixL ?hq ?hi ?_); (case hq => walk_at "hk"); (case hi => first | exact rfl | assumption))
  | ((with_reducible refine' x_ixT ?hq ?hi ?_); (case hq => walk_at "hk"); (case hi => first | exact rfl | assumption))
  | with_reducible refine x_chain ?_
  | with_reducible refine x_tup ?_
  | with_reducible refine x_lst ?_
  | ((with_reducible refine x_lenNew ?hl ?_); (case hl => exact Nat.le_of_ble_eq_true rfl); intro _ _ _ _ _)
  | ((with_reducible refine x_new ?_); intro _ _ _ _ _)
  | with_reducible refine x_sl ?_
  | with_reducible refine x_noPart ?_
  | with_reducible refine x_part ?_
  | with_reducible refine x_ex_int ?_
  | with_reducible refine x_ex_bl ?_
  | with_reducible refine x_ex_2 ?_
  | with_reducible refine x_test ?_
  | with_reducible refine x_B ?_
  | with_reducible refine x_and ?_
  | with_reducible refine x_or ?_
  | with_reducible refine x_not ?_
  | with_reducible refine x_andV ?_
  | with_reducible refine x_orV ?_
  | with_reducible refine x_notV ?_
  | with_reducible refine x_ifE ?_
  | with_reducible refine x_iteT ?_
  | with_reducible refine x_iteF ?_
  | ((with_reducible refine x_iteD ?_ ?_) <;> intro _)
  | ((with_reducible refine x_iteN ?_ ?_) <;> intro _)
  | with_reducible refine x_if ?_
  | with_reducible refine x_seq ?_
  | with_reducible refine x_next ?_
  | with_reducible refine x_asg ?_
  | with_reducible refine x_gName ?_
  | ((with_reducible refine' x_gTup ?hq ?hn ?_); (case hq => walk_at "hk"); (case hn => exact rfl))
  | with_reducible refine x_gCons ?_
  | with_reducible refine x_gNil ?_
  | ((with_reducible refine' x_gConsE ?h ?_); (case h => exact rfl))
  | ((with_reducible refine x_gNilE ?h ?_); (case h => exact rfl))
  | with_reducible refine x_ret ?_
  | with_reducible refine x_drop ?_
  | with_reducible refine x_par ?_
  | ((with_reducible refine' x_aug ?hx ?_); (case hx => exact rfl))
  | with_reducible refine x_ipI ?_
  | with_reducible refine x_augS ?_
  | with_reducible refine x_gSub ?_
  | ((with_reducible refine' x_setL ?hq ?hi ?_); (case hq => walk_at "hk"); (case hi => first | exact rfl | assumption))
  | with_reducible refine x_cons ?_
  | with_reducible refine x_nil ?_
  | with_reducible refine x_CB ?_
  | with_reducible refine x_abs ?_
  | with_reducible refine x_intI ?_
  | with_reducible refine x_intB ?_
  | ((with_reducible refine' x_lenL ?hq ?_); (case hq => walk_at "hk"))
  | ((with_reducible refine' x_lenT ?hq ?_); (case hq => walk_at "hk"))
  | ((with_reducible refine x_iteTe ?h ?_); (case h => exact rfl))
  | ((with_reducible refine x_iteFe ?h ?_); (case h => exact rfl))
  | walk_at "use"
  | with_reducible refine x_callS ?_
  | ((with_reducible refine x_lc ?_))
  | ((with_reducible refine x_for ?_))
  | ((with_reducible refine x_iR1 ?_))
  | ((with_reducible refine x_iL ?_))
  | ((with_reducible refine x_iZ ?_))
  | ((with_reducible refine x_yes ?_))
  | ((with_reducible refine' x_NIDt ?hq ?_); (case hq => assumption))
  | ((with_reducible refine' x_NIDf ?hq ?_); (case hq => assumption))
  | ((with_reducible refine' x_IIDf ?hq ?_); (case hq => assumption))
  | ((with_reducible refine' x_IIDt ?hq ?_); (case hq => assumption))
  | ((with_reducible refine' x_ixDs ?hd ?hq ?_); (case hd => assumption); (case hq => assumption))
  | ((with_reducible refine x_InSt ?h ?_); (case h => decide +kernel))
  | ((with_reducible refine x_InSf ?h ?_); (case h => decide +kernel))
  | ((with_reducible refine' x_notInI ?hq ?_); (case hq => walk_at "hk"))
  | ((with_reducible refine' x_inTt ?hq ?hv ?ha ?he ?_); (case hq => walk_at "hk"); (case hv => exact rfl); (case ha => exact rfl); (case he => decide +kernel))
  | ((with_reducible refine' x_inTf ?hq ?hv ?ha ?he ?_); (case hq => walk_at "hk"); (case hv => exact rfl); (case ha => exact rfl); (case he => decide +kernel))
  | ((with_reducible refine' x_slT ?hq ?hw ?_); (case hq => walk_at "hk"); (case hw => with_unfolding_all exact of_decide_eq_true rfl))
  | ((with_reducible refine' x_slL ?hq ?_); (case hq => walk_at "hk"))
  | ((with_reducible refine' x_catT ?hq ?hr ?n1 ?n2 ?hl ?_); (case hq => walk_at "hk"); (case hr => walk_at "hk"); (case n1 => exact List.cons_ne_nil _ _); (case n2 => exact List.cons_ne_nil _ _); (case hl => exact Nat.le_of_ble_eq_true rfl))
  | ((with_reducible refine x_bm ?_))
  | ((with_reducible refine x_lstRg ?_))
  | ((with_reducible refine x_rg1 ?_))
  | ((with_reducible refine And.intro ?h ?_); (case h => exact tyL (by assumption)))
  | dsimp only)
local macro_rules | `(tactic| walk_at "use") => `(tactic| fail)
local macro_rules | `(tactic| walk_at "rd") => `(tactic| repeat' (walk_at "rd1"))
local macro_rules | `(tactic| walk_at "ex") => `(tactic| first | exact Ex.refl _ | assumption | (refine' Ex.trans ?he (by assumption); (case he => walk_at "ex")))
local macro_rules | `(tactic| walk_at "rd1") => `(tactic| first
  | ((with_reducible refine x_iteDf ?h ?_); (case h => exact rfl))
  | ((with_reducible refine x_iteDt ?h ?_); (case h => exact rfl))
  | ((with_reducible refine x_iteNf ?h ?_); (case h => exact rfl))
  | ((with_reducible refine x_iteNt ?h ?_); (case h => exact rfl))
  | ((with_reducible refine x_isiI (r := true) ?h ?_); (case h => decide +kernel))
  | ((with_reducible refine x_isiI (r := false) ?h ?_); (case h => decide +kernel))
  | ((with_reducible refine x_isiS (r := true) ?h ?_); (case h => decide +kernel))
  | ((with_reducible refine x_isiS (r := false) ?h ?_); (case h => decide +kernel))
  | ((with_reducible refine x_isiB (r := true) ?h ?_); (case h => decide +kernel))
  | ((with_reducible refine x_isiB (r := false) ?h ?_); (case h => decide +kernel))
  | ((with_reducible refine' x_isiT (r := true) ?hp ?h ?_); (case hp => walk_at "hk"); (case h => decide +kernel))
  | ((with_reducible refine' x_isiT (r := false) ?hp ?h ?_); (case hp => walk_at "hk"); (case h => decide +kernel))
  | ((with_reducible refine' x_isiL (r := true) ?hp ?h ?_); (case hp => walk_at "hk"); (case h => decide +kernel))
  | ((with_reducible refine' x_isiL (r := false) ?hp ?h ?_); (case hp => walk_at "hk"); (case h => decide +kernel))
  | ((with_reducible refine' x_isi2L ?hp ?hl ?_); (case hp => walk_at "hk"); (case hl => walk_at "hk"))
  | ((with_reducible refine' x_isi2T ?hp ?hl ?_); (case hp => walk_at "hk"); (case hl => walk_at "hk"))
  | ((with_reducible refine' x_tupOfL ?hq ?_); (case hq => walk_at "hk"))
  | ((with_reducible refine' x_tupOfT ?hq ?_); (case hq => walk_at "hk"))
  | ((with_reducible refine x_lenS ?h ?_); (case h => exact Nat.le_of_ble_eq_true rfl))
  | ((with_reducible refine' x_all ?hq ?_); (case hq => walk_at "hk"))
  | with_reducible refine x_lenSet ?_)

local macro_rules | `(tactic| walk_at "use") => `(tactic| first | with_reducible refine u_is_index ?_ | with_reducible refine u_is_indexI ?_)
local macro_rules | `(tactic| walk_at "rf") => `(tactic| first | assumption | exact Ow.Refs.drop (by assumption) | exact Ow.Refs.take (by assumption) | exact Ow.Refs.nil | (refine Ow.Refs.cons ?_; walk_at "rf") | (refine Ow.Refs.app ?_ ?_ <;> walk_at "rf") | (refine Ow.Refs.cut ?_; walk_at "rf") | (refine Ow.Refs.rev ?_; walk_at "rf"))
local macro_rules | `(tactic| walk_at "nb") => `(tactic| first | assumption | (refine Ow.Refs.nb ?_; walk_at "rf"))
local macro_rules | `(tactic| walk_at "ln") => `(tactic| exact Nat.le_trans (show _ ≤ 1000 by first | omega | (simp only [Ow.cut_take, Ow.cut_drop, Ow.cut_drop1, Ow.cut_drop_one, Ow.cut_take_one, List.length_append, List.length_take, List.length_drop, List.length_cons, List.length_nil, List.length_reverse]; omega)) (by decide))
local macro_rules | `(tactic| walk_at "rd1") => `(tactic| first
  | ((with_reducible refine' x_cat ?h ?h' ?l ?_); (case h => walk_at "hk"); (case h' => walk_at "hk"); (case l => walk_at "ln"))
  | ((with_reducible refine' x_listOfL ?h ?_); (case h => walk_at "hk")))
local macro_rules | `(tactic| walk_at "sc") => `(tactic| first | assumption | (refine' Scr.mono ?hscr ?escr; (case hscr => assumption); (case escr => walk_at "ex")))
local macro_rules | `(tactic| walk_at "rd1") => `(tactic| first
  | with_reducible refine x_iT ?_
  | with_reducible refine Ow.x_bm0 ?_
  | with_reducible refine x_make ?_
  | with_reducible refine Ow.x_meth ?_
  | with_reducible refine Ow.x_prop ?_
  | with_reducible refine Ow.x_iOwn ?_
  | ((with_reducible refine' x_methS ?h ?l ?_); (case h => walk_at "sc"); (case l => intro _ _; exact rfl))
  | ((with_reducible refine' x_propS ?h ?_); (case h => walk_at "sc"))
  | ((with_reducible refine' u_sfiles ?h ?_); (case h => walk_at "sc"))
  | ((with_reducible refine' u_ssize ?h ?hl ?_); (case h => walk_at "sc"); (case hl => omega); intro _ _)
  | ((with_reducible refine' u_scalls ?h ?_); (case h => walk_at "sc"); intro _ _ _ _ _ _ _)
  | ((with_reducible refine' u_sstraight ?h ?hl ?_); (case h => walk_at "sc"); (case hl => omega); intro _ _)
  | ((with_reducible refine' x_lenS' ?e ?h ?hl ?_); (case e => exact rfl); (case h => walk_at "sc"); (case hl => omega))
  | ((with_reducible refine' x_listS ?e ?h ?_); (case e => exact rfl); (case h => walk_at "sc"); intro _ _ _ _ _ _ _)
  | ((with_reducible refine' x_eqS ?c ?h ?h' ?_); (case c => assumption); (case h => walk_at "sc"); (case h' => walk_at "sc"))
  | ((with_reducible refine' x_neS ?c ?h ?h' ?_); (case c => assumption); (case h => walk_at "sc"); (case h' => walk_at "sc"))
  | ((with_reducible refine' x_eqSL ?c ?h ?h' ?_); (case c => assumption); (case h => walk_at "sc"); (case h' => walk_at "hk"))
  | ((with_reducible refine' x_eqST ?c ?h ?h' ?_); (case c => assumption); (case h => walk_at "sc"); (case h' => walk_at "hk"))
  | ((with_reducible refine' x_eqSI ?c ?h ?_); (case c => assumption); (case h => walk_at "sc")))
local macro_rules | `(tactic| walk_at "rd1") => `(tactic| first
  | ((with_reducible refine' Ow.x_catA ?h ?h' ?l ?_); (case h => walk_at "hk"); (case h' => walk_at "hk"); (case l => walk_at "ln"); intro _ _ _ _)
  | ((with_reducible refine' Ow.x_slA ?h ?_); (case h => walk_at "hk"); intro _ _ _ _)
  | with_reducible refine Ow.x_iRev ?_
  | with_reducible refine Er.x_isN ?_
  | with_reducible refine Er.x_methS ?_
  | with_reducible refine Er.x_makeS ?_
  | ((with_reducible refine' x_methKS ?h ?l ?_); (case h => walk_at "sc"); (case l => intro _ _; exact rfl)))
local macro_rules | `(tactic| walk_at "rd1") => `(tactic| first
  | with_reducible refine x_fld ?_
  | ((with_reducible refine' x_fldK ?h ?c ?n ?l ?_); (case h => walk_at "hk"); (case c => assumption); (case n => assumption); (case l => first | exact rfl | assumption)))
section
variable {P : Program} {w : World} {K : PySem.W.Frag} {mg : Str → Option Value} {base : Heap} {a : Ad} {H H1 : Hp} {Q : VK} {E : XK} {p b c t s dx : Addr} {fl gl n : Int} {xs : List V} {qs us : List C} {CS : Addr}
open Er
/-! scripts made of scripts -/
def Made (CS : Addr) (H : Hp) (fl : Int) (qs : List My.C) (Q : VK) : Prop := ∀ p H1, Ex H H1 → Scr CS H1 p fl qs → Q (.ref p) H1
def sp_Script_mul (CS : Addr) : Sp := fun vs H Q _ => ∃ (s t : Addr) (fl : Int) (qs us : List My.C), vs = [.ref s, .ref t] ∧ Scr CS H s fl qs ∧ Scr CS H t fl us ∧ (∀ q ∈ qs ++ us, q.Good fl) ∧ 2 ≤ fl ∧ fl ≤ 3 ∧ qs.length ≤ 400 ∧ us.length ≤ 400 ∧ Made CS H fl (qs ++ us) Q
theorem ok_Script_mul (T : Txt K w mg a) : FnOk P w K mg base CX0 7 a.a_Script_mul a.fd_Script_mul ["self", "other"] (sp_Script_mul a.c_Script) := by
  refine T.F_Script_mul.ok sc_Script_mul (fun vs H Q E h => ?_) (fun cdv A outer s H vs Q E hr h => ?_)
  · obtain ⟨s, t, fl, qs, us, rfl, _⟩ := h; rfl
  · obtain ⟨s, t, fl, qs, us, rfl, ⟨dx, t1, xs, h1, h2, h3⟩, ⟨dy, t2, ys, g1, g2, g3⟩, hg, f2, f3, l1, l2, k⟩ := h
    have cl := T.t_Script.cl
    have nh := T.A_Script_held
    have nw := T.A_Script_width
    have lx := h3.len
    have ly := g3.len
    have G_Script_init := ok_Script_init (P := P) (base := base) T
    refine ⟨_, (pss_cons (ps_if (pt_cmpR op_ne (pe_fld (pv 0) rfl) (pe_fld (pv 1) rfl) (nomark _)) (pss_one ps_never) pss_nil)
      (pss_one (ps_ret (pe_make T.M_Script G_Script_init (hr.mono (by decide)) (by rfl) T.m_Script T.b_Script_init .nil pass0 (pa_cons (pe_fld (pv 0) rfl) (pa_cons (pe_op op_catA (pe_fld (pv 0) rfl) (pe_fld (pv 1) rfl)) pa_nil)))))), ?_⟩
    walk_at "rd"
    all_goals first
      | (rename_i hne; exact absurd rfl hne)
      | skip
    rename_i p1 H1 e1 h4
    refine u_make ⟨xs ++ ys, .inr h4, (h3.ex e1).app (g3.ex e1)⟩ hg f2 f3 (by simp; omega) fun x H2 e2 sc => ?_
    exact k x H2 (e1.trans e2) sc
/-! ~ -/
def sp_Script_invert (CS : Addr) : Sp := fun vs H Q _ => ∃ (s : Addr) (fl : Int) (qs : List My.C), vs = [.ref s] ∧ Scr CS H s fl qs ∧ (∀ q ∈ qs, q.Good fl) ∧ 2 ≤ fl ∧ fl ≤ 3 ∧ qs.length ≤ 400 ∧ Made CS H fl (qs.reverse.map My.C.turned) Q
theorem ok_Script_invert (T : Txt K w mg a) : FnOk P w K mg base CX0 7 a.a_Script_invert a.fd_Script_invert ["self"] (sp_Script_invert a.c_Script) := by
  refine T.F_Script_invert.ok sc_Script_invert (fun vs H Q E h => ?_) (fun cdv A outer s H vs Q E hr h => ?_)
  · obtain ⟨s, fl, qs, rfl, _⟩ := h; rfl
  · obtain ⟨s, fl, qs, rfl, ⟨dx, t1, xs, h1, h2, h3⟩, hg, f2, f3, l1, k⟩ := h
    have cl := T.t_Script.cl
    have nh := T.A_Script_held
    have nw := T.A_Script_width
    have lx := h3.len
    have G_Script_init := ok_Script_init (P := P) (base := base) T
    have G_turned := ok_turned (P := P) (base := base) T
    refine ⟨_, (pss_one (ps_ret (pe_make T.M_Script G_Script_init (hr.mono (by decide)) (by rfl) T.m_Script T.b_Script_init .nil pass0 (pa_cons (pe_fld (pv 0) rfl) (pa_cons (pe_lc (own := [("call", 1)]) rfl sc_Script_invert.nd (RT.pi_revA (by rfl) T.n_reversed (pe_fld (pv 0) rfl)) (blkOk_by (own := [("call", 1)]) (N := ["self", "call"]) (sc := defScope s_Script_invert) (by decide +kernel)) (fun _ _ _ _ _ => (pg_name (i := 1) sc_Script_invert.nd rfl (Or.inl rfl) (Or.inr rfl))) (fun _ _ _ _ _ => pts_nil) (fun _ _ _ _ _ => (pe_call G_turned (hr.mono (by decide)) (by rfl) T.m_turned T.k_turned T.b_turned .nil pass0 (pa_cons (pv 1) pa_nil)))) pa_nil))))), ?_⟩
    walk_at "rd"
    refine Ow.lc_rev (xs := xs) h2 (fun i acc H2 => Cls H2 acc ((qs.reverse.take i).map My.C.turned) ∧ acc.length = i ∧ i ≤ xs.length) ⟨.nil, rfl, Nat.zero_le _⟩ (fun i acc H H' t h => ⟨h.1.mono t, h.2⟩) (fun i acc _ h => ⟨h.1.nb, Nat.lt_of_le_of_lt (show acc.length ≤ 400 by omega) (by decide)⟩) (fun x => rfl) (fun i y acc H3 hy e3 hI kk k1 k2 => ?_) (fun p2 ys H3 e3 f3' h3'' hI => ?_)
    · obtain ⟨p, q, rfl, hq, hp⟩ := h3.rev.get hy
      have hi' := (List.getElem?_eq_some_iff.mp hy).1
      rw [List.length_reverse] at hi'
      walk_at "rd"
      refine u_turned (e3.kp _ _ hp NB.tup) fun p1 H4 e4 h4 => ?_
      refine k1 _ _ e4 ⟨?_, by simp; omega, hi'⟩
      rw [List.take_add_one, hq, List.map_append]
      exact (hI.1.ex e4).app (.cons h4 .nil)
    · have hI1 := hI.1
      rw [List.take_of_length_le (by rw [List.length_reverse]; omega)] at hI1
      walk_at "rd"
      refine u_make ⟨ys, .inl h3'', hI1⟩ (fun q hq => ?_) f2 f3 (by simp; omega) fun x H4 e4 sc => ?_
      · obtain ⟨q', hq', rfl⟩ := List.mem_map.mp hq
        exact (hg q' (List.mem_reverse.mp hq')).turned
      · exact k x H4 (e3.trans e4) sc
theorem x_mulS (h : Scr CS H s fl qs) (h' : Scr CS H t fl us) (hg : ∀ q ∈ qs, q.Good fl) (hg' : ∀ q ∈ us, q.Good fl) (f2 : 2 ≤ fl) (f3 : fl ≤ 3) (l1 : qs.length ≤ 400) (l2 : us.length ≤ 400) (k : Made CS H fl (qs ++ us) Q) : Ow.rBinC CS (sp_Script_mul CS) E (.ref s) (.ref t) H Q := by
  obtain ⟨dx, t1, xs, h1, _⟩ := id h
  obtain ⟨dy, t2, ys, g1, _⟩ := id h'
  exact Ow.x_binC h1 g1 ⟨s, t, fl, qs, us, rfl, h, h', fun q hq => (List.mem_append.mp hq).elim (hg q) (hg' q), f2, f3, l1, l2, fun p H1 e sc => ⟨⟨p, rfl⟩, k p H1 e sc⟩⟩
theorem x_invS (h : Scr CS H s fl qs) (hg : ∀ q ∈ qs, q.Good fl) (f2 : 2 ≤ fl) (f3 : fl ≤ 3) (l1 : qs.length ≤ 400) (k : Made CS H fl (qs.reverse.map My.C.turned) Q) : Ow.rInvC CS (sp_Script_invert CS) E (.ref s) H Q := by
  obtain ⟨dx, t1, xs, h1, _⟩ := id h
  exact Ow.x_invC h1 ⟨s, fl, qs, rfl, h, hg, f2, f3, l1, k⟩
/-! times -/
def sp_Script_times (CS : Addr) : Sp := fun vs H Q _ => ∃ (s : Addr) (fl n : Int) (qs : List My.C), vs = [.ref s, .int n] ∧ Scr CS H s fl qs ∧ (∀ q ∈ qs, q.Good fl) ∧ 2 ≤ fl ∧ fl ≤ 3 ∧ qs.length ≤ 100 ∧ -100 ≤ n ∧ n ≤ 100 ∧ Made CS H fl (List.replicate n.natAbs (if 0 ≤ n then qs else qs.reverse.map My.C.turned)).flatten Q
theorem rep_cls {m : Nat} (h : Cls H xs qs) : Cls H (List.replicate m xs).flatten (List.replicate m qs).flatten := by
  induction m with
  | zero => exact .nil
  | succ m ih =>
    rw [List.replicate_succ, List.replicate_succ, List.flatten_cons, List.flatten_cons]
    exact h.app ih
theorem rep_mem {m : Nat} {q : My.C} (h : q ∈ (List.replicate m qs).flatten) : q ∈ qs := by
  obtain ⟨l, hl, hq⟩ := List.mem_flatten.mp h
  rw [(List.mem_replicate.mp hl).2] at hq
  exact hq
theorem rep_len {m : Nat} : ((List.replicate m qs).flatten).length = m * qs.length := by simp
theorem ok_Script_times (T : Txt K w mg a) : FnOk P w K mg base CX0 8 a.a_Script_times a.fd_Script_times ["self", "k"] (sp_Script_times a.c_Script) := by
  refine T.F_Script_times.ok sc_Script_times (fun vs H Q E h => ?_) (fun cdv A outer s H vs Q E hr h => ?_)
  · obtain ⟨s, fl, n, qs, rfl, _⟩ := h; rfl
  · obtain ⟨s, fl, n, qs, rfl, hs, hg, f2, f3, l1, n1, n2, k⟩ := h
    have cl := T.t_Script.cl
    have nh := T.A_Script_held
    have nw := T.A_Script_width
    have G_Script_init := ok_Script_init (P := P) (base := base) T
    have G_Script_invert := ok_Script_invert (P := P) (base := base) T
    refine ⟨_, (pss_cons (ps_set (i := 2) sc_Script_times.nd rfl (Or.inl rfl) (pe_ifExp (pt_cmpR op_ge (pv 1) pe_int (nomark _)) (pv 0) (pe_un (Ow.un_invOwn G_Script_invert T.Q_Script_invert.at_ T.Q_Script_invert.fn T.b_Script_invert pass0 (hr.mono (by decide))) (pv 0))))
      (pss_one (ps_ret (pe_make T.M_Script G_Script_init (hr.mono (by decide)) (by rfl) T.m_Script T.b_Script_init .nil pass0 (pa_cons (pe_fld (pv 0) rfl) (pa_cons (pe_op Ow.op_repA (pe_fld (pv 2) rfl) (pe_callB c_abs (by rfl) T.n_abs (by decide +kernel) (pa_cons (pv 1) pa_nil))) pa_nil)))))), ?_⟩
    iterate 9 walk_at "rd1"
    refine Ow.x_iteMD (fun v H2 => ∃ s2, v = .ref s2 ∧ Ex H H2 ∧ Scr a.c_Script H2 s2 fl (if 0 ≤ n then qs else qs.reverse.map My.C.turned)) (fun hn Q' kq => ?_) (fun hn Q' kq => ?_) (fun v H2 hv => ?_)
    · walk_at "rd"
      exact kq _ _ ⟨s, rfl, Ex.refl _, by rw [if_pos hn]; exact hs⟩
    · walk_at "rd"
      refine x_invS hs hg f2 f3 (by omega) fun p H1 e sc => ?_
      exact kq _ _ ⟨p, rfl, e, by rw [if_neg hn]; exact sc⟩
    obtain ⟨s2, rfl, e, sc⟩ := hv
    have hg2 : ∀ q ∈ (if 0 ≤ n then qs else qs.reverse.map My.C.turned), q.Good fl := by
      split
      · exact hg
      · intro q hq
        obtain ⟨q', hq', rfl⟩ := List.mem_map.mp hq
        exact (hg q' (List.mem_reverse.mp hq')).turned
    have hl2 : (if 0 ≤ n then qs else qs.reverse.map My.C.turned).length ≤ 100 := by
      split
      · exact l1
      · rw [List.length_map, List.length_reverse]; exact l1
    generalize (if 0 ≤ n then qs else qs.reverse.map My.C.turned) = us at sc hg2 hl2 k
    obtain ⟨dx, t1, xs, h1, h2, h3⟩ := sc
    have hsw := hs.mono e
    obtain ⟨dy, t2, ys, g1, g2, g3⟩ := hsw
    have lx := h3.len
    walk_at "rd"
    refine Ow.x_repA h2 (by split <;> omega) (by split <;> omega) (by omega) fun p H3 e3 h4 => ?_
    rw [show (if n < 0 then -n else n).toNat = n.natAbs by split <;> omega] at h4
    walk_at "rd"
    refine u_make ⟨_, .inr h4, rep_cls (h3.ex e3)⟩ (fun q hq => hg2 q (rep_mem hq)) f2 f3 ?_ fun x H4 e4 sc4 => ?_
    · rw [rep_len]
      exact Nat.le_trans (Nat.mul_le_mul (show n.natAbs ≤ 100 by omega) hl2) (by decide)
    · exact k x H4 ((e.trans e3).trans e4) sc4
/-! without, within -/
/-! with a call put in -/
/-! mirrored() -/
theorem x_methKS {m : Str} {sp : Sp} {ta : TA} {σ : L2.St} (h : Scr CS H s fl qs) (l : ∀ fl t, (flds fl t).lookup m = none) (k : ta σ H fun vs H2 => sp (.ref s :: vs) H2 Q E) : Er.MethKS CS m sp E ta σ (.ref s) H Q := by
  obtain ⟨dx, t, xs, h1, _⟩ := h
  exact ⟨s, dx, _, rfl, h1, l _ _, k⟩
theorem u_stimes (h : Scr CS H s fl qs) (hg : ∀ q ∈ qs, q.Good fl) (f2 : 2 ≤ fl) (f3 : fl ≤ 3) (l1 : qs.length ≤ 100) (n1 : -100 ≤ n) (n2 : n ≤ 100) (k : Made CS H fl (List.replicate n.natAbs (if 0 ≤ n then qs else qs.reverse.map My.C.turned)).flatten Q) : sp_Script_times CS [.ref s, .int n] H Q E := ⟨s, fl, n, qs, rfl, h, hg, f2, f3, l1, n1, n2, k⟩
end
end My

set_option Elab.async false
set_option linter.all false
set_option maxRecDepth 100000
set_option maxHeartbeats 8000000
namespace My
open PySem PySem.Spec PyProof.Rows L2 Sx
local macro_rules | `(tactic| walk_at "nb") => `(tactic| first | exact NB.tup | exact NB.ints | exact NB.len (of_decide_eq_true rfl) | exact NB.at0b rfl | exact NB.at3b rfl | exact NB.ins | exact NB.own | exact NB.frz | exact NB.refs (by assumption) | assumption)
local macro_rules | `(tactic| walk_at "ne") => `(tactic| first | assumption | exact Ne.symm (by assumption) | exact ne_of_none (by assumption) (by assumption) | exact Ne.symm (ne_of_none (by assumption) (by assumption)))
local macro_rules | `(tactic| walk_at "hk") => `(tactic| first
  | assumption
  | exact upd_same
  | (refine' (upd_ne ?hkne).trans ?hkq; (case hkne => walk_at "ne"); (case hkq => walk_at "hk"))
  | (refine' Ex.kp (by assumption) _ _ ?hkq ?hkn; (case hkq => walk_at "hk"); (case hkn => walk_at "nb")))
local macro_rules | `(tactic| walk_at "rd1") => `(tactic| first
  | ((with_reducible refine' x_var ?hx ?_); (case hx => exact rfl))
  | with_reducible refine x_c ?_
  | with_reducible refine x_op ?_
  | with_reducible refine x_un ?_
  | with_reducible refine x_I0 ?_
  | with_reducible refine x_U ?_
  | ((with_reducible refine x_I ?hc ?_); (case hc => first | exact (by decide : (0 : Int) < _) | (show (0 : Int) < _; omega) | (show CMul _ _; first | exact .inl ⟨by omega, by omega⟩ | exact .inr ⟨by omega, by omega⟩) | (show CDiv _ _; exact ⟨by omega, by omega⟩) | (show CDivW _ _; exact wide_div (b := 200) (by omega) (by assumption) (by decide) (by decide)) | (show CDivW _ _; exact wide_div (b := 31) (by omega) (by omega) (by decide) (by decide))))
  | with_reducible refine x_EqI ?_
  | with_reducible refine x_NeI ?_
  | ((with_reducible refine x_EqSt ?h ?_); (case h => decide +kernel))
  | ((with_reducible refine x_EqSf ?h ?_); (case h => decide +kernel))
  | ((with_reducible refine x_NeSt ?h ?_); (case h => decide +kernel))
  | ((with_reducible refine x_NeSf ?h ?_); (case h => decide +kernel))
  | with_reducible refine x_EqS ?_
  | with_reducible refine x_NeS ?_
  | ((with_reducible refine' x_ixL ?hq ?hi ?_); (case hq => walk_at "hk"); (case hi => first | exact rfl | assumption))
  | ((with_reducible refine' x_ixT ?hq ?hi ?_); (case hq => walk_at "hk"); (case hi => first | exact rfl | assumption))
  | with_reducible refine x_chain ?_
  | with_reducible refine x_tup ?_
  | with_reducible refine x_lst ?_
  | ((with_reducible refine x_lenNew ?hl ?_); (case hl => exact Nat.le_of_ble_eq_true rfl); intro _ _ _ _ _)
  | ((with_reducible refine x_new ?_); intro _ _ _ _ _)
  | with_reducible refine x_sl ?_
  | with_reducible refine x_noPart ?_
  | with_reducible refine x_part ?_
  | with_reducible refine x_ex_int ?_
  | with_reducible refine x_ex_bl ?_
  | with_reducible refine x_ex_2 ?_
  | with_reducible refine x_test ?_
  | with_reducible refine x_B ?_
  | with_reducible refine x_and ?_
  | with_reducible refine x_or ?_
  | with_reducible refine x_not ?_
  | with_reducible refine x_andV ?_
  | with_reducible refine x_orV ?_
  | with_reducible refine x_notV ?_
  | with_reducible refine x_ifE ?_
  | with_reducible refine x_iteT ?_
  | with_reducible refine x_iteF ?_
  | ((with_reducible refine x_iteD ?_ ?_) <;> intro _)
  | ((with_reducible refine x_iteN ?_ ?_) <;> intro _)
  | with_reducible refine x_if ?_
  | with_reducible refine x_seq ?_
  | with_reducible refine x_next ?_
  | with_reducible refine x_asg ?_
  | with_reducible refine x_gName ?_
  | ((with_reducible refine' x_gTup ?hq ?hn ?_); (case hq => walk_at "hk"); (case hn => exact rfl))
  | with_reducible refine x_gCons ?_
  | with_reducible refine x_gNil ?_
  | ((with_reducible refine' x_gConsE ?h ?_); (case h => exact rfl))
  | ((with_reducible refine x_gNilE ?h ?_); (case h => exact rfl))
  | with_reducible refine x_ret ?_
  | with_reducible refine x_drop ?_
  | with_reducible refine x_par ?_
  | ((with_reducible refine' x_aug ?hx ?_); (case hx => exact rfl))
  | with_reducible refine x_ipI ?_
  | with_reducible refine x_augS ?_
  | with_reducible refine x_gSub ?_
  | ((with_reducible refine' x_setL ?hq ?hi ?_); (case hq => walk_at "hk"); (case hi => first | exact rfl | assumption))
  | with_reducible refine x_cons ?_
  | with_reducible refine x_nil ?_
  | with_reducible refine x_CB ?_
  | with_reducible refine x_abs ?_
  | with_reducible refine x_intI ?_
  | with_reducible refine x_intB ?_
  | ((with_reducible refine' x_lenL ?hq ?_); (case hq => walk_at "hk"))
  | ((with_reducible refine' x_lenT ?hq ?_); (case hq => walk_at "hk"))
  | ((with_reducible refine x_iteTe ?h ?_); (case h => exact rfl))
  | ((with_reducible refine x_iteFe ?h ?_); (case h => exact rfl))
  | walk_at "use"
  | with_reducible refine x_callS ?_
  | ((with_reducible refine x_lc ?_))
  | ((with_reducible refine x_for ?_))
  | ((with_reducible refine x_iR1 ?_))
  | ((with_reducible refine x_iL ?_))
  | ((with_reducible refine x_iZ ?_))
  | ((with_reducible refine x_yes ?_))
  | ((with_reducible refine' x_NIDt ?hq ?_); (case hq => assumption))
  | ((with_reducible refine' x_NIDf ?hq ?_); (case hq => assumption))
  | ((with_reducible refine' x_IIDf ?hq ?_); (case hq => assumption))
  | ((with_reducible refine' x_IIDt ?hq ?_); (case hq => assumption))
  | ((with_reducible refine' x_ixDs ?hd ?hq ?_); (case hd => assumption); (case hq => assumption))
  | ((with_reducible refine x_InSt ?h ?_); (case h => decide +kernel))
  | ((with_reducible refine x_InSf ?h ?_); (case h => decide +kernel))
  | ((with_reducible refine' x_notInI ?hq ?_); (case hq => walk_at "hk"))
  | ((with_reducible refine' x_inTt ?hq ?hv ?ha ?he ?_); (case hq => walk_at "hk"); (case hv => exact rfl); (case ha => exact rfl); (case he => decide +kernel))
  | ((with_reducible refine' x_inTf ?hq ?hv ?ha ?he ?_); (case hq => walk_at "hk"); (case hv => exact rfl); (case ha => exact rfl); (case he => decide +kernel))
  | ((with_reducible refine' x_slT ?hq ?hw ?_); (case hq => walk_at "hk"); (case hw => with_unfolding_all exact of_decide_eq_true rfl))
  | ((with_reducible refine' x_slL ?hq ?_); (case hq => walk_at "hk"))
  | ((with_reducible refine' x_catT ?hq ?hr ?n1 ?n2 ?hl ?_); (case hq => walk_at "hk"); (case hr => walk_at "hk"); (case n1 => exact List.cons_ne_nil _ _); (case n2 => exact List.cons_ne_nil _ _); (case hl => exact Nat.le_of_ble_eq_true rfl))
  | ((with_reducible refine x_bm ?_))
  | ((with_reducible refine x_lstRg ?_))
  | ((with_reducible refine x_rg1 ?_))
  | ((with_reducible refine And.intro ?h ?_); (case h => exact tyL (by assumption)))
  | dsimp only)
local macro_rules | `(tactic| walk_at "use") => `(tactic| fail)
local macro_rules | `(tactic| walk_at "rd") => `(tactic| repeat' (walk_at "rd1"))
local macro_rules | `(tactic| walk_at "ex") => `(tactic| first | exact Ex.refl _ | assumption | (refine' Ex.trans ?he (by assumption); (case he => walk_at "ex")))

local macro_rules | `(tactic| walk_at "use") => `(tactic| ((with_reducible refine' u_is_straight ?hq ?_); (case hq => walk_at "hk"); intro _ _))
section
variable {P : Program} {w : World} {K : PySem.W.Frag} {mg : Str → Option Value} {base : Heap} {a : Ad} {H : Hp} {Q : VK} {E : XK} {p b : Addr} {q : C}
/-! where a call brings -/
def mvOpen (x : Nat) (fs rs r f : Int) : Int × Int := match x with
  | 0 => ((r * fs + f) % rs, (r * fs + f) / rs)
  | 1 => ((f * rs + r) / fs, (f * rs + r) % fs)
  | 2 => (r / 2 + r % 2 * ((rs + 1) / 2), f)
  | _ => if r < (rs + 1) / 2 then (2 * r, f) else (2 * (r - (rs + 1) / 2) + 1, f)
def wheelAt (y rs g h : Int) : Int × Int := if y < rs then (rs - 1 - y, g) else (y - rs, h)
def wheelTo (g h k rs r f : Int) : Int × Int := wheelAt (((if f = g then rs - 1 - r else rs + r) + k) % (2 * rs)) rs g h
def mv (q : C) (fs rs r f : Int) : Int × Int := match q with
  | .all k => ((r - k) % rs, f)
  | .up g k => if f ∈ [g] then ((r - k) % rs, f) else (r, f)
  | .swap g h => if f ∈ [g, h] then (r, g + h - f) else (r, f)
  | .wheel g h k => if f ∈ [g, h] then wheelTo g h k rs r f else (r, f)
  | .about => (rs - 1 - r, fs - 1 - f)
  | .front g h => if f ∈ [g, h] then (if r ≠ 0 then (r, f) else (r, g + h - f)) else (r, f)
  | .halve => mvOpen 0 fs rs r f
  | .pair => mvOpen 1 fs rs r f
  | .others => mvOpen 2 fs rs r f
  | .fill => mvOpen 3 fs rs r f
theorem mv_out {q : C} {fs rs r f : Int} (h : f ∉ q.named) (hq : q.named ≠ []) : mv q fs rs r f = (r, f) := by
  cases q with
  | all k => exact absurd rfl hq
  | about => exact absurd rfl hq
  | halve => exact absurd rfl hq
  | pair => exact absurd rfl hq
  | others => exact absurd rfl hq
  | fill => exact absurd rfl hq
  | up g k => exact if_neg h
  | swap g k => exact if_neg h
  | wheel g k l => exact if_neg h
  | front g k => exact if_neg h
theorem mv_up {g k fs rs r f : Int} (h : f ∈ (C.up g k).named) : mv (.up g k) fs rs r f = ((r - k) % rs, f) := if_pos h
theorem mv_swap {g k fs rs r f : Int} (h : f ∈ (C.swap g k).named) : mv (.swap g k) fs rs r f = (r, g + k - f) := if_pos h
theorem mv_wheel {g k l fs rs r f : Int} (h : f ∈ (C.wheel g k l).named) : mv (.wheel g k l) fs rs r f = wheelTo g k l rs r f := if_pos h
theorem mv_front1 {g k fs rs r f : Int} (h : f ∈ (C.front g k).named) (h0 : ¬ r = 0) : mv (.front g k) fs rs r f = (r, f) := (if_pos h).trans (if_pos h0)
theorem mv_front0 {g k fs rs r f : Int} (h : f ∈ (C.front g k).named) (h0 : r = 0) : mv (.front g k) fs rs r f = (r, g + k - f) := (if_pos h).trans (if_neg (fun q => q h0))
def pairV (x : Int × Int) : List V := [.int x.1, .int x.2]
def opW : Nat → Str
  | 0 => "halve" | 1 => "pair" | 2 => "others" | _ => "fill"
def sp_moved_by_open_call : Sp := fun vs H Q _ => ∃ (x : Nat) (fs rs r f : Int) (pl : Addr), vs = [.str (opW x), .int fs, .int rs, .ref pl] ∧ H pl = some (.tup [.int r, .int f]) ∧ (fs = 2 ∨ fs = 3) ∧ 0 < rs ∧ rs.natAbs < 2 ^ 200 ∧ (0 ≤ f ∧ f < fs) ∧ ∀ p1 H1, Ex H H1 → H1 p1 = some (.tup (pairV (mvOpen x fs rs r f))) → Q (.ref p1) H1
theorem u_moved_by_open_call (x : Nat) {fs rs r f : Int} {pl : Addr} {z : Str} (hz : z = opW x) (h : H pl = some (.tup [.int r, .int f])) (h1 : fs = 2 ∨ fs = 3) (h2 : 0 < rs) (h3 : rs.natAbs < 2 ^ 200) (h4 : 0 ≤ f ∧ f < fs) (k : ∀ p1 H1, Ex H H1 → H1 p1 = some (.tup (pairV (mvOpen x fs rs r f))) → Q (.ref p1) H1) :
    sp_moved_by_open_call [.str z, .int fs, .int rs, .ref pl] H Q E := ⟨x, fs, rs, r, f, pl, by rw [hz], h, h1, h2, h3, h4, k⟩
theorem opW0 {x : Nat} (h : opW x = "halve") : x = 0 := by
  match x with
  | 0 => rfl
  | 1 => exact absurd h (show ¬ ("pair" : Str) = "halve" by decide +kernel)
  | 2 => exact absurd h (show ¬ ("others" : Str) = "halve" by decide +kernel)
  | n + 3 => exact absurd h (show ¬ ("fill" : Str) = "halve" by decide +kernel)
theorem opW1 {x : Nat} (h : opW x = "pair") : x = 1 := by
  match x with
  | 0 => exact absurd h (show ¬ ("halve" : Str) = "pair" by decide +kernel)
  | 1 => rfl
  | 2 => exact absurd h (show ¬ ("others" : Str) = "pair" by decide +kernel)
  | n + 3 => exact absurd h (show ¬ ("fill" : Str) = "pair" by decide +kernel)
theorem opW2 {x : Nat} (h : opW x = "others") : x = 2 := by
  match x with
  | 0 => exact absurd h (show ¬ ("halve" : Str) = "others" by decide +kernel)
  | 1 => exact absurd h (show ¬ ("pair" : Str) = "others" by decide +kernel)
  | 2 => rfl
  | n + 3 => exact absurd h (show ¬ ("fill" : Str) = "others" by decide +kernel)
theorem opW3 {x : Nat} (h1 : ¬ opW x = "halve") (h2 : ¬ opW x = "pair") (h3 : ¬ opW x = "others") : ∃ n, x = n + 3 := by
  match x with
  | 0 => exact absurd rfl h1
  | 1 => exact absurd rfl h2
  | 2 => exact absurd rfl h3
  | n + 3 => exact ⟨n, rfl⟩
theorem ok_moved_by_open_call (T : Txt K w mg a) : FnOk P w K mg base CX0 1 a.a_moved_by_open_call a.fd_moved_by_open_call ["word", "files", "rows", "place"] sp_moved_by_open_call := by
  refine T.F_moved_by_open_call.ok sc_moved_by_open_call (fun vs H Q E h => ?_) (fun cdv A outer s H vs Q E hr h => ?_)
  · obtain ⟨x, fs, rs, r, f, pl, rfl, _⟩ := h; rfl
  · obtain ⟨x, fs, rs, r, f, pl, rfl, hp, hfs, hrs, hbig, hff, k⟩ := h
    have hf0 : 0 < fs := by omega
    have hfb : fs.natAbs < 2 ^ 200 := by rcases hfs with rfl | rfl <;> decide
    refine ⟨_, (pss_cons (ps_asg (pv 3) (pg_tup rfl (pgs_cons (pg_name (i := 4) sc_moved_by_open_call.nd rfl (Or.inl rfl)) (pgs_cons (pg_name (i := 5) sc_moved_by_open_call.nd rfl (Or.inl rfl)) pgs_nil))))
      (pss_cons (ps_if (pt_cmpR op_eq (pv 0) pe_str (nomark _)) (pss_cons (ps_set (i := 6) sc_moved_by_open_call.nd rfl (Or.inl rfl) (pe_op op_add (pe_op op_mul (pv 4) (pv 1)) (pv 5)))
      (pss_one (ps_ret (pe_tup (pa_cons (pe_op op_mod (pv 6) (pv 2)) (pa_cons (pe_op op_fdivW (pv 6) (pv 2)) pa_nil)))))) pss_nil)
      (pss_cons (ps_if (pt_cmpR op_eq (pv 0) pe_str (nomark _)) (pss_cons (ps_set (i := 6) sc_moved_by_open_call.nd rfl (Or.inl rfl) (pe_op op_add (pe_op op_mul (pv 5) (pv 2)) (pv 4)))
      (pss_one (ps_ret (pe_tup (pa_cons (pe_op op_fdivW (pv 6) (pv 1)) (pa_cons (pe_op op_mod (pv 6) (pv 1)) pa_nil)))))) pss_nil)
      (pss_cons (ps_set (i := 7) sc_moved_by_open_call.nd rfl (Or.inl rfl) (pe_op op_fdiv (pe_op op_add (pv 2) pe_int) pe_int))
      (pss_cons (ps_if (pt_cmpR op_eq (pv 0) pe_str (nomark _)) (pss_one (ps_ret (pe_tup (pa_cons (pe_op op_add (pe_op op_fdiv (pv 4) pe_int) (pe_op op_mul (pe_op op_mod (pv 4) pe_int) (pv 7))) (pa_cons (pv 5) pa_nil))))) pss_nil)
      (pss_cons (ps_if (pt_cmpR op_lt (pv 4) (pv 7) (nomark _)) (pss_one (ps_ret (pe_tup (pa_cons (pe_op op_mul pe_int (pv 4)) (pa_cons (pv 5) pa_nil))))) pss_nil)
      (pss_one (ps_ret (pe_tup (pa_cons (pe_op op_add (pe_op op_mul pe_int (pe_op op_sub (pv 4) (pv 7))) pe_int) (pa_cons (pv 5) pa_nil))))))))))), ?_⟩
    have fin : ∀ {y : Int × Int} {p1 : Addr} {H1 : Hp}, Ex H H1 → H1 p1 = some (.tup (pairV y)) → y = mvOpen x fs rs r f → Q (.ref p1) H1 := fun e h hx => k _ _ e (by rw [← hx]; exact h)
    clear k
    walk_at "rd"
    · rename_i hc _ _ _ _ h
      cases opW0 hc
      exact fin (by walk_at "ex") (y := (_, _)) h rfl
    · rename_i hc _ _ _ _ h
      cases opW1 hc
      exact fin (by walk_at "ex") (y := (_, _)) h rfl
    · rename_i hc _ _ _ _ h
      cases opW2 hc
      exact fin (by walk_at "ex") (y := (_, _)) h rfl
    · rename_i h1 h2 h3 hlt _ _ _ _ h
      obtain ⟨n, rfl⟩ := opW3 h1 h2 h3
      exact fin (by walk_at "ex") (y := (_, _)) h (if_pos hlt).symm
    · rename_i h1 h2 h3 hlt _ _ _ _ h
      obtain ⟨n, rfl⟩ := opW3 h1 h2 h3
      exact fin (by walk_at "ex") (y := (_, _)) h (if_neg hlt).symm
/-! cuts of a file -/
abbrev Way := Int × Int × Int
def wayV (w : Way) : List V := [.int w.1, .int w.2.1, .int w.2.2]
/-- a row, the way of the rows ahead of it, that of all others -/
structure CutAt (H : Hp) (t : Addr) (c : Int) (x y : Way) : Prop where
  ex : ∃ p q, H t = some (.tup [.int c, .ref p, .ref q]) ∧ H p = some (.tup (wayV x)) ∧ H q = some (.tup (wayV y))
def sp_whole : Sp := fun vs H Q _ => ∃ (p : Addr) (x : Way), vs = [.ref p] ∧ H p = some (.tup (wayV x)) ∧ ∀ t H1, Ex H H1 → CutAt H1 t 0 x x → Q (.ref t) H1
theorem u_whole (x : Way) (h : H p = some (.tup (wayV x))) (k : ∀ t H1, Ex H H1 → CutAt H1 t 0 x x → Q (.ref t) H1) : sp_whole [.ref p] H Q E := ⟨p, x, rfl, h, k⟩
theorem ok_whole (T : Txt K w mg a) : FnOk P w K mg base CX0 1 a.a_whole a.fd_whole ["way"] sp_whole := by
  refine T.F_whole.ok sc_whole (fun vs H Q E h => ?_) (fun cdv A outer s H vs Q E hr h => ?_)
  · obtain ⟨p, x, rfl, _⟩ := h; rfl
  · obtain ⟨p, x, rfl, hp, k⟩ := h
    refine ⟨_, (pss_one (ps_ret (pe_tup (pa_cons pe_int (pa_cons (pv 0) (pa_cons (pv 0) pa_nil)))))), ?_⟩
    walk_at "rd"
    rename_i t H1 e1 f1 h1
    exact k _ _ e1 ⟨p, p, h1, e1.kp _ _ hp NB.tup, e1.kp _ _ hp NB.tup⟩
def sp_cut_of_up : Sp := fun vs H Q _ => ∃ k rs f : Int, vs = [.int k, .int rs, .int f] ∧ 0 < rs ∧ ∀ t H1, Ex H H1 → CutAt H1 t (k % rs) (f, 1, rs - k % rs) (f, 1, -(k % rs)) → Q (.ref t) H1
theorem u_cut_of_up {k rs f : Int} (h : 0 < rs) (kk : ∀ t H1, Ex H H1 → CutAt H1 t (k % rs) (f, 1, rs - k % rs) (f, 1, -(k % rs)) → Q (.ref t) H1) : sp_cut_of_up [.int k, .int rs, .int f] H Q E := ⟨k, rs, f, rfl, h, kk⟩
theorem ok_cut_of_up (T : Txt K w mg a) : FnOk P w K mg base CX0 1 a.a_cut_of_up a.fd_cut_of_up ["k", "rows", "file"] sp_cut_of_up := by
  refine T.F_cut_of_up.ok sc_cut_of_up (fun vs H Q E h => ?_) (fun cdv A outer s H vs Q E hr h => ?_)
  · obtain ⟨k, rs, f, rfl, _⟩ := h; rfl
  · obtain ⟨k, rs, f, rfl, hrs, kk⟩ := h
    refine ⟨_, (pss_cons (ps_set (i := 3) sc_cut_of_up.nd rfl (Or.inl rfl) (pe_op op_mod (pv 0) (pv 1)))
      (pss_one (ps_ret (pe_tup (pa_cons (pv 3) (pa_cons (pe_tup (pa_cons (pv 2) (pa_cons pe_int (pa_cons (pe_op op_sub (pv 1) (pv 3)) pa_nil)))) (pa_cons (pe_tup (pa_cons (pv 2) (pa_cons pe_int (pa_cons (pe_un un_neg (pv 3)) pa_nil)))) pa_nil))))))), ?_⟩
    walk_at "rd"
    rename_i p1 H1 e1 f1 h1 p2 H2 e2 f2 h2 t H3 e3 f3 h3
    exact kk _ _ ((e1.trans e2).trans e3) ⟨_, _, h3, (e2.trans e3).kp _ _ h1 NB.tup, e3.kp _ _ h2 NB.tup⟩
def cutWheel (g h k rs f : Int) : Int × Way × Way :=
  if f = g then (if k < rs then (k, (h, -1, k - 1), (g, 1, -k)) else (k - rs, (g, 1, 2 * rs - k), (h, -1, k - 1)))
  else (if k < rs then (rs - k, (h, 1, k), (g, -1, 2 * rs - 1 - k)) else (2 * rs - k, (g, -1, 2 * rs - 1 - k), (h, 1, k - 2 * rs)))
def sp_cut_of_wheel : Sp := fun vs H Q _ => ∃ (p : Addr) (g h k rs f : Int), vs = [.ref p, .int rs, .int f] ∧ H p = some (.tup (C.wheel g h k).vals) ∧ 0 < rs ∧ ∀ t H1, Ex H H1 → CutAt H1 t (cutWheel g h (k % (2 * rs)) rs f).1 (cutWheel g h (k % (2 * rs)) rs f).2.1 (cutWheel g h (k % (2 * rs)) rs f).2.2 → Q (.ref t) H1
theorem u_cut_of_wheel {g h k rs f : Int} (hp : H p = some (.tup (C.wheel g h k).vals)) (hr : 0 < rs) (kk : ∀ t H1, Ex H H1 → CutAt H1 t (cutWheel g h (k % (2 * rs)) rs f).1 (cutWheel g h (k % (2 * rs)) rs f).2.1 (cutWheel g h (k % (2 * rs)) rs f).2.2 → Q (.ref t) H1) :
    sp_cut_of_wheel [.ref p, .int rs, .int f] H Q E := ⟨p, g, h, k, rs, f, rfl, hp, hr, kk⟩
theorem ok_cut_of_wheel (T : Txt K w mg a) : FnOk P w K mg base CX0 1 a.a_cut_of_wheel a.fd_cut_of_wheel ["call", "rows", "file"] sp_cut_of_wheel := by
  refine T.F_cut_of_wheel.ok sc_cut_of_wheel (fun vs H Q E h => ?_) (fun cdv A outer s H vs Q E hr h => ?_)
  · obtain ⟨p, g, h, k, rs, f, rfl, _⟩ := h; rfl
  · obtain ⟨p, g, h, k, rs, f, rfl, hp, hrs, kk⟩ := h
    refine ⟨_, (pss_cons (ps_asg (pe_slice sl_tup (pv 0) (po_some pe_int) po_none) (pg_tup rfl (pgs_cons (pg_name (i := 3) sc_cut_of_wheel.nd rfl (Or.inl rfl)) (pgs_cons (pg_name (i := 4) sc_cut_of_wheel.nd rfl (Or.inl rfl)) (pgs_cons (pg_name (i := 5) sc_cut_of_wheel.nd rfl (Or.inl rfl)) pgs_nil)))))
      (pss_cons (ps_set (i := 5) sc_cut_of_wheel.nd rfl (Or.inl rfl) (pe_op op_mod (pv 5) (pe_op op_mul pe_int (pv 1))))
      (pss_cons (ps_if (pt_cmpR op_eq (pv 2) (pv 3) (nomark _)) (pss_cons (ps_set (i := 6) sc_cut_of_wheel.nd rfl (Or.inl rfl) (pe_tup (pa_cons (pv 4) (pa_cons (pe_un un_neg pe_int) (pa_cons (pe_op op_sub (pv 5) pe_int) pa_nil)))))
      (pss_cons (ps_if (pt_cmpR op_lt (pv 5) (pv 1) (nomark _)) (pss_one (ps_ret (pe_tup (pa_cons (pv 5) (pa_cons (pv 6) (pa_cons (pe_tup (pa_cons (pv 3) (pa_cons pe_int (pa_cons (pe_un un_neg (pv 5)) pa_nil)))) pa_nil)))))) pss_nil)
      (pss_one (ps_ret (pe_tup (pa_cons (pe_op op_sub (pv 5) (pv 1)) (pa_cons (pe_tup (pa_cons (pv 3) (pa_cons pe_int (pa_cons (pe_op op_sub (pe_op op_mul pe_int (pv 1)) (pv 5)) pa_nil)))) (pa_cons (pv 6) pa_nil)))))))) pss_nil)
      (pss_cons (ps_set (i := 6) sc_cut_of_wheel.nd rfl (Or.inl rfl) (pe_tup (pa_cons (pv 3) (pa_cons (pe_un un_neg pe_int) (pa_cons (pe_op op_sub (pe_op op_sub (pe_op op_mul pe_int (pv 1)) pe_int) (pv 5)) pa_nil)))))
      (pss_cons (ps_if (pt_cmpR op_lt (pv 5) (pv 1) (nomark _)) (pss_one (ps_ret (pe_tup (pa_cons (pe_op op_sub (pv 1) (pv 5)) (pa_cons (pe_tup (pa_cons (pv 4) (pa_cons pe_int (pa_cons (pv 5) pa_nil)))) (pa_cons (pv 6) pa_nil)))))) pss_nil)
      (pss_one (ps_ret (pe_tup (pa_cons (pe_op op_sub (pe_op op_mul pe_int (pv 1)) (pv 5)) (pa_cons (pv 6) (pa_cons (pe_tup (pa_cons (pv 4) (pa_cons pe_int (pa_cons (pe_op op_sub (pv 5) (pe_op op_mul pe_int (pv 1))) pa_nil)))) pa_nil))))))))))), ?_⟩
    walk_at "rd"
    all_goals (rename_i p0 K0 e0 f0 h0 c1 p1 K1 e1 f1 h1 c2 p2 K2 e2 f2 h2 t K3 e3 f3 h3; refine kk _ _ (by walk_at "ex") ?_; unfold cutWheel)
    · rw [if_pos c1, if_pos c2]
      exact ⟨p1, p2, h3, (e2.trans e3).kp _ _ h1 NB.tup, e3.kp _ _ h2 NB.tup⟩
    · rw [if_pos c1, if_neg c2]
      exact ⟨p2, p1, h3, e3.kp _ _ h2 NB.tup, (e2.trans e3).kp _ _ h1 NB.tup⟩
    · rw [if_neg c1, if_pos c2]
      exact ⟨p2, p1, h3, e3.kp _ _ h2 NB.tup, (e2.trans e3).kp _ _ h1 NB.tup⟩
    · rw [if_neg c1, if_neg c2]
      exact ⟨p1, p2, h3, (e2.trans e3).kp _ _ h1 NB.tup, e3.kp _ _ h2 NB.tup⟩
def cutOf (q : C) (fs rs f : Int) : Int × Way × Way := match q with
  | .all k => (k % rs, (f, 1, rs - k % rs), (f, 1, -(k % rs)))
  | .up g k => if g = f then (k % rs, (f, 1, rs - k % rs), (f, 1, -(k % rs))) else (0, (f, 1, 0), (f, 1, 0))
  | .swap g h => if f ∈ [g, h] then (0, (g + h - f, 1, 0), (g + h - f, 1, 0)) else (0, (f, 1, 0), (f, 1, 0))
  | .wheel g h k => if f ∈ [g, h] then cutWheel g h (k % (2 * rs)) rs f else (0, (f, 1, 0), (f, 1, 0))
  | .front g h => if f ∈ [g, h] then (1, (g + h - f, 1, 0), (f, 1, 0)) else (0, (f, 1, 0), (f, 1, 0))
  | _ => (0, (fs - 1 - f, -1, rs - 1), (fs - 1 - f, -1, rs - 1))
def sp_cut_of : Sp := fun vs H Q _ => ∃ (p : Addr) (q : C) (fs rs f : Int), vs = [.ref p, .int fs, .int rs, .int f] ∧ H p = some (.tup q.vals) ∧ q.straight = true ∧ 0 < rs ∧ ∀ t H1, Ex H H1 → CutAt H1 t (cutOf q fs rs f).1 (cutOf q fs rs f).2.1 (cutOf q fs rs f).2.2 → Q (.ref t) H1
theorem u_cut_of {fs rs f : Int} (hp : H p = some (.tup q.vals)) (hs : q.straight = true) (hr : 0 < rs) (kk : ∀ t H1, Ex H H1 → CutAt H1 t (cutOf q fs rs f).1 (cutOf q fs rs f).2.1 (cutOf q fs rs f).2.2 → Q (.ref t) H1) :
    sp_cut_of [.ref p, .int fs, .int rs, .int f] H Q E := ⟨p, q, fs, rs, f, rfl, hp, hs, hr, kk⟩
theorem x_notInTI {n : Int} (ns : List Int) (h : H p = some (.tup (ns.map V.int))) (k : Q (.bl (!decide (n ∈ ns))) H) : rIn K true (.int n) (.ref p) H Q := ⟨p, _, rfl, .inr (SqT.of h), rfl, flat_ints, by rw [if_pos rfl, inV_ints]; exact k⟩
local macro_rules | `(tactic| walk_at "use") => `(tactic| ((with_reducible refine' u_cut_of_up ?h ?_); (case h => assumption); intro _ _ _ _))
local macro_rules | `(tactic| walk_at "use") => `(tactic| ((with_reducible refine' u_cut_of_wheel ?hq ?h ?_); (case hq => walk_at "hk"); (case h => assumption); intro _ _ _ _))
theorem x_cond {t : TT} {σ : L2.St} {H : Hp} {Q : Bool → Hp → Prop} (b : Bool) (c : ∀ Q' : Bool → Hp → Prop, (∀ H1, Ex H H1 → Q' b H1) → t σ H Q') (k : ∀ H1, Ex H H1 → Q b H1) : t σ H Q := c Q k
theorem C.isAbout (h : q.wd = "about") : q = .about := by cases q <;> first | rfl | (simp only [C.wd] at h; exact absurd h (by decide +kernel))
def C.isTurn (f : Int) : C → Bool
  | .all _ => true | .up g _ => decide (g = f) | _ => false
def C.isOut (f : Int) : C → Bool
  | .up _ _ => true | .swap g h => !decide (f ∈ [g, h]) | .wheel g h _ => !decide (f ∈ [g, h]) | .front g h => !decide (f ∈ [g, h]) | _ => true
theorem C.turn_cut {fs rs f : Int} (h : q.isTurn f = true) : ∃ k, atI q.vals (-1) = some (.int k) ∧ cutOf q fs rs f = (k % rs, (f, 1, rs - k % rs), (f, 1, -(k % rs))) := by
  cases q with
  | all k => exact ⟨k, rfl, rfl⟩
  | up g k => exact ⟨k, rfl, if_pos (of_decide_eq_true h)⟩
  | _ => cases h
theorem C.out_cut {fs rs f : Int} (hs : q.straight = true) (h1 : q.isTurn f = false) (h2 : ¬ q.wd = "about") (h : q.isOut f = true) : cutOf q fs rs f = (0, (f, 1, 0), (f, 1, 0)) := by
  cases q with
  | all k => cases h1
  | up g k => exact if_neg (of_decide_eq_false h1)
  | swap g k => exact if_neg (by simpa [C.isOut] using h)
  | wheel g k l => exact if_neg (by simpa [C.isOut] using h)
  | front g k => exact if_neg (by simpa [C.isOut] using h)
  | about => exact absurd rfl h2
  | _ => cases hs
theorem inOf {p : Prop} [Decidable p] (h : (!decide p) = false) : p := by simpa using h
theorem C.in_cut {f : Int} (hs : q.straight = true) (h1 : q.isTurn f = false) (h2 : ¬ q.wd = "about") (h : q.isOut f = false) : (∃ g k l, q = .wheel g k l ∧ f ∈ [g, k]) ∨ (∃ g k, q = .swap g k ∧ f ∈ [g, k]) ∨ (∃ g k, q = .front g k ∧ f ∈ [g, k]) := by
  cases q with
  | all k => cases h1
  | up g k => cases h
  | swap g k => exact .inr (.inl ⟨g, k, rfl, inOf h⟩)
  | wheel g k l => exact .inl ⟨g, k, l, rfl, inOf h⟩
  | front g k => exact .inr (.inr ⟨g, k, rfl, inOf h⟩)
  | about => exact absurd rfl h2
  | _ => cases hs
theorem ok_cut_of (T : Txt K w mg a) : FnOk P w K mg base CX0 2 a.a_cut_of a.fd_cut_of ["call", "files", "rows", "file"] sp_cut_of := by
  refine T.F_cut_of.ok sc_cut_of (fun vs H Q E h => ?_) (fun cdv A outer s H vs Q E hr h => ?_)
  · obtain ⟨p, q, fs, rs, f, rfl, _⟩ := h; rfl
  · obtain ⟨p, q, fs, rs, f, rfl, hp, hs, hrs, kk⟩ := h
    have G_whole := ok_whole (P := P) (base := base) T
    have G_cut_of_up := ok_cut_of_up (P := P) (base := base) T
    have G_cut_of_wheel := ok_cut_of_wheel (P := P) (base := base) T
    have h0 : atI q.vals 0 = some (.str q.wd) := C.wd0
    have fin : ∀ {t : Addr} {H1 : Hp} {c : Int × Way × Way}, Ex H H1 → CutAt H1 t c.1 c.2.1 c.2.2 → cutOf q fs rs f = c → Q (.ref t) H1 := fun e h hc => kk _ _ e (by rw [hc]; exact h)
    clear kk
    refine ⟨_, (pss_cons (ps_set (i := 4) sc_cut_of.nd rfl (Or.inl rfl) (pe_ix ix_tup (pv 0) pe_int (fun _ _ => rfl)))
      (pss_cons (ps_if (PW.pt (pw_or (pt_cmpR op_eq (pv 4) pe_str (nomark _)) (pw_or1 (PW.pt (pw_and (pt_cmpR op_eq (pv 4) pe_str (nomark _)) (pw_and1 (pt_cmpR op_eq (pe_ix ix_tup (pv 0) pe_int (fun _ _ => rfl)) (pv 3) (nomark _)))))))) (pss_one (ps_ret (pe_call G_cut_of_up (hr.mono (by decide)) (by rfl) T.m_cut_of_up T.k_cut_of_up T.b_cut_of_up .nil pass0 (pa_cons (pe_ix ix_tup (pv 0) (pe_un un_neg pe_int) (fun _ _ => rfl)) (pa_cons (pv 2) (pa_cons (pv 3) pa_nil)))))) pss_nil)
      (pss_cons (ps_if (pt_cmpR op_eq (pv 4) pe_str (nomark _)) (pss_one (ps_ret (pe_call G_whole (hr.mono (by decide)) (by rfl) T.m_whole T.k_whole T.b_whole .nil pass0 (pa_cons (pe_tup (pa_cons (pe_op op_sub (pe_op op_sub (pv 1) pe_int) (pv 3)) (pa_cons (pe_un un_neg pe_int) (pa_cons (pe_op op_sub (pv 2) pe_int) pa_nil)))) pa_nil)))) pss_nil)
      (pss_cons (ps_if (PW.pt (pw_or (pt_cmpR op_eq (pv 4) pe_str (nomark _)) (pw_or1 (pt_cmpR op_notIn_seq (pv 3) (pe_slice sl_tup (pv 0) (po_some pe_int) (po_some pe_int)) (by rfl))))) (pss_one (ps_ret (pe_call G_whole (hr.mono (by decide)) (by rfl) T.m_whole T.k_whole T.b_whole .nil pass0 (pa_cons (pe_tup (pa_cons (pv 3) (pa_cons pe_int (pa_cons pe_int pa_nil)))) pa_nil)))) pss_nil)
      (pss_cons (ps_if (pt_cmpR op_eq (pv 4) pe_str (nomark _)) (pss_one (ps_ret (pe_call G_cut_of_wheel (hr.mono (by decide)) (by rfl) T.m_cut_of_wheel T.k_cut_of_wheel T.b_cut_of_wheel .nil pass0 (pa_cons (pv 0) (pa_cons (pv 2) (pa_cons (pv 3) pa_nil)))))) pss_nil)
      (pss_cons (ps_set (i := 5) sc_cut_of.nd rfl (Or.inl rfl) (pe_tup (pa_cons (pe_op op_sub (pe_op op_add (pe_ix ix_tup (pv 0) pe_int (fun _ _ => rfl)) (pe_ix ix_tup (pv 0) pe_int (fun _ _ => rfl))) (pv 3)) (pa_cons pe_int (pa_cons pe_int pa_nil)))))
      (pss_cons (ps_if (pt_cmpR op_eq (pv 4) pe_str (nomark _)) (pss_one (ps_ret (pe_tup (pa_cons pe_int (pa_cons (pv 5) (pa_cons (pe_tup (pa_cons (pv 3) (pa_cons pe_int (pa_cons pe_int pa_nil)))) pa_nil)))))) pss_nil)
      (pss_one (ps_ret (pe_call G_whole (hr.mono (by decide)) (by rfl) T.m_whole T.k_whole T.b_whole .nil pass0 (pa_cons (pv 5) pa_nil))))))))))), ?_⟩
    repeat ((fail_if_success (refine x_seq (x_if ?_))); walk_at "rd1")
    dsimp only
    refine x_seq (x_if (x_cond (q.isTurn f) (fun Q' kk => ?_) fun H1 e1 => ?_))
    · clear fin G_whole G_cut_of_up G_cut_of_wheel
      cases q <;> simp only [C.wd] <;> walk_at "rd"
      all_goals exact kk _ (by walk_at "ex")
    have hp1 := e1.kp _ _ hp NB.tup
    refine x_iteB (fun b1 => ?_) (fun b1 => ?_)
    · obtain ⟨k, c1, c2⟩ := C.turn_cut (fs := fs) (rs := rs) b1
      walk_at "rd"
      rename_i c
      exact fin (by walk_at "ex") c c2
    refine x_next ?_
    dsimp only
    repeat ((fail_if_success (refine x_next (x_seq (x_if ?_)))); walk_at "rd1")
    · rename_i hc _ _ _ _ h1
      cases C.isAbout hc
      exact u_whole (fs - 1 - f, -1, rs - 1) h1 fun t H2 e2 c => fin (by walk_at "ex") c rfl
    rename_i b0
    refine x_next ?_
    dsimp only
    refine x_seq (x_if (x_cond (q.isOut f) (fun Q' kk => ?_) fun H2 e2 => ?_))
    · clear fin G_whole G_cut_of_up G_cut_of_wheel
      cases q with
      | all k => cases b1
      | up g k => simp only [C.wd]; walk_at "rd"; exact kk _ (by walk_at "ex")
      | swap g k => simp only [C.wd]; walk_at "rd"; rename_i h1; refine x_notInTI [g, k] h1 ?_; walk_at "rd"; exact kk _ (by walk_at "ex")
      | wheel g k l => simp only [C.wd]; walk_at "rd"; rename_i h1; refine x_notInTI [g, k] h1 ?_; walk_at "rd"; exact kk _ (by walk_at "ex")
      | front g k => simp only [C.wd]; walk_at "rd"; rename_i h1; refine x_notInTI [g, k] h1 ?_; walk_at "rd"; exact kk _ (by walk_at "ex")
      | about => exact absurd rfl b0
      | _ => cases hs
    have hp2 := e2.kp _ _ hp1 NB.tup
    refine x_iteB (fun b2 => ?_) (fun b2 => ?_)
    · have c2 := C.out_cut (fs := fs) (rs := rs) hs b1 b0 b2
      walk_at "rd"
      rename_i h
      exact u_whole (f, 1, 0) h fun t H3 e3 c => fin (by walk_at "ex") c c2
    refine x_next ?_
    have e02 : Ex H H2 := e1.trans e2
    rcases C.in_cut hs b1 b0 b2 with ⟨g, k, l, rfl, hm⟩ | ⟨g, k, rfl, hm⟩ | ⟨g, k, rfl, hm⟩
    all_goals (clear b1 b2 hp hp1 e1 e2; simp only [C.wd]; walk_at "rd")
    · rename_i h
      exact fin (by walk_at "ex") h (if_pos hm)
    · rename_i h
      exact u_whole (g + k - f, 1, 0) h fun t H3 e3 c => fin (by walk_at "ex") c (if_pos hm)
    · rename_i p2 H2 e2 f2 h2 p3 H3 e3 f3 h3 t H4 e4 f4 h4
      exact fin (c := (1, (g + k - f, 1, 0), (f, 1, 0))) (by walk_at "ex") ⟨_, _, h4, (e3.trans e4).kp _ _ h2 NB.tup, e4.kp _ _ h3 NB.tup⟩ (if_pos hm)
/-! the cut brings as the call does -/
def wayTo (x : Way) (r : Int) : Int × Int := (x.2.1 * r + x.2.2, x.1)
theorem up_cut {r k rs : Int} (h0 : 0 ≤ r) (h1 : r < rs) : (r - k) % rs = if r < k % rs then r + (rs - k % rs) else r - k % rs := by
  have c0 := Int.emod_nonneg k (show rs ≠ 0 by omega)
  have c1 := Int.emod_lt_of_pos k (show 0 < rs by omega)
  rw [Int.sub_emod, Int.emod_eq_of_lt h0 h1]
  generalize k % rs = c at c0 c1
  by_cases q : r < c
  · rw [if_pos q, show r - c = (r + (rs - c)) + rs * (-1) by omega, Int.add_mul_emod_self_left]
    exact Int.emod_eq_of_lt (by omega) (by omega)
  · rw [if_neg q]
    exact Int.emod_eq_of_lt (by omega) (by omega)
theorem ring_cut {y k n : Int} (h0 : 0 ≤ y) (h1 : y < n) : (y + k) % n = if y + k % n < n then y + k % n else y + k % n - n := by
  have c0 := Int.emod_nonneg k (show n ≠ 0 by omega)
  have c1 := Int.emod_lt_of_pos k (show 0 < n by omega)
  rw [Int.add_emod, Int.emod_eq_of_lt h0 h1]
  generalize k % n = c at c0 c1
  by_cases q : y + c < n
  · rw [if_pos q]
    exact Int.emod_eq_of_lt (by omega) q
  · rw [if_neg q]
    have e := Int.add_mul_emod_self_left (y + c - n) n 1
    rw [show y + c - n + n * 1 = y + c by omega] at e
    rw [e]
    exact Int.emod_eq_of_lt (by omega) (by omega)
theorem cut_mv {q : C} {fs rs r f : Int} (hs : q.straight = true) (h0 : 0 ≤ r) (h1 : r < rs) : wayTo (if r < (cutOf q fs rs f).1 then (cutOf q fs rs f).2.1 else (cutOf q fs rs f).2.2) r = mv q fs rs r f := by
  cases q with
  | halve => cases hs
  | pair => cases hs
  | others => cases hs
  | fill => cases hs
  | all k =>
    show wayTo (if r < k % rs then (f, 1, rs - k % rs) else (f, 1, -(k % rs))) r = ((r - k) % rs, f)
    rw [up_cut h0 h1]
    split <;> simp only [wayTo] <;> congr 1 <;> omega
  | up g k =>
    by_cases c : g = f
    · rw [show cutOf (.up g k) fs rs f = (k % rs, (f, 1, rs - k % rs), (f, 1, -(k % rs))) from if_pos c, mv_up (by simp [C.named, c]), up_cut h0 h1]
      show wayTo (if r < k % rs then (f, 1, rs - k % rs) else (f, 1, -(k % rs))) r = _
      split <;> simp only [wayTo] <;> congr 1 <;> omega
    · rw [show cutOf (.up g k) fs rs f = (0, (f, 1, 0), (f, 1, 0)) from if_neg c, mv_out (q := .up g k) (by simp [C.named]; omega) (List.cons_ne_nil _ _)]
      simp only [ite_self, wayTo]
      congr 1
      omega
  | swap g h =>
    by_cases c : f ∈ [g, h]
    · rw [show cutOf (.swap g h) fs rs f = (0, (g + h - f, 1, 0), (g + h - f, 1, 0)) from if_pos c, mv_swap c]
      simp only [ite_self, wayTo]
      congr 1
      omega
    · rw [show cutOf (.swap g h) fs rs f = (0, (f, 1, 0), (f, 1, 0)) from if_neg c, mv_out (q := .swap g h) c (List.cons_ne_nil _ _)]
      simp only [ite_self, wayTo]
      congr 1
      omega
  | about =>
    show wayTo (if r < 0 then (fs - 1 - f, -1, rs - 1) else (fs - 1 - f, -1, rs - 1)) r = (rs - 1 - r, fs - 1 - f)
    simp only [ite_self, wayTo]
    congr 1
    omega
  | front g h =>
    by_cases c : f ∈ [g, h]
    · rw [show cutOf (.front g h) fs rs f = (1, (g + h - f, 1, 0), (f, 1, 0)) from if_pos c]
      by_cases z : r = 0
      · rw [mv_front0 c z, if_pos (show r < 1 by omega)]
        simp only [wayTo]
        congr 1
        omega
      · rw [mv_front1 c z, if_neg (show ¬ r < 1 by omega)]
        simp only [wayTo]
        congr 1
        omega
    · rw [show cutOf (.front g h) fs rs f = (0, (f, 1, 0), (f, 1, 0)) from if_neg c, mv_out (q := .front g h) c (List.cons_ne_nil _ _)]
      simp only [ite_self, wayTo]
      congr 1
      omega
  | wheel g h k =>
    by_cases c : f ∈ [g, h]
    · rw [show cutOf (.wheel g h k) fs rs f = cutWheel g h (k % (2 * rs)) rs f from if_pos c, mv_wheel c]
      unfold wheelTo
      have y0 : 0 ≤ (if f = g then rs - 1 - r else rs + r) := by split <;> omega
      have y1 : (if f = g then rs - 1 - r else rs + r) < 2 * rs := by split <;> omega
      rw [ring_cut y0 y1]
      have c0 := Int.emod_nonneg k (show 2 * rs ≠ 0 by omega)
      have c1 := Int.emod_lt_of_pos k (show 0 < 2 * rs by omega)
      generalize k % (2 * rs) = m at c0 c1
      unfold cutWheel wheelAt
      by_cases q1 : f = g
      · simp only [if_pos q1]
        by_cases q2 : m < rs
        · simp only [if_pos q2]
          by_cases q3 : r < m
          · rw [if_pos q3, if_pos (show rs - 1 - r + m < 2 * rs by omega), if_neg (show ¬ rs - 1 - r + m < rs by omega)]
            simp only [wayTo]; congr 1; omega
          · rw [if_neg q3, if_pos (show rs - 1 - r + m < 2 * rs by omega), if_pos (show rs - 1 - r + m < rs by omega)]
            simp only [wayTo]; congr 1; omega
        · simp only [if_neg q2]
          by_cases q3 : r < m - rs
          · rw [if_pos q3, if_neg (show ¬ rs - 1 - r + m < 2 * rs by omega), if_pos (show rs - 1 - r + m - 2 * rs < rs by omega)]
            simp only [wayTo]; congr 1; omega
          · rw [if_neg q3, if_pos (show rs - 1 - r + m < 2 * rs by omega), if_neg (show ¬ rs - 1 - r + m < rs by omega)]
            simp only [wayTo]; congr 1; omega
      · simp only [if_neg q1]
        by_cases q2 : m < rs
        · simp only [if_pos q2]
          by_cases q3 : r < rs - m
          · rw [if_pos q3, if_pos (show rs + r + m < 2 * rs by omega), if_neg (show ¬ rs + r + m < rs by omega)]
            simp only [wayTo]; congr 1; omega
          · rw [if_neg q3, if_neg (show ¬ rs + r + m < 2 * rs by omega), if_pos (show rs + r + m - 2 * rs < rs by omega)]
            simp only [wayTo]; congr 1; omega
        · simp only [if_neg q2]
          by_cases q3 : r < 2 * rs - m
          · rw [if_pos q3, if_neg (show ¬ rs + r + m < 2 * rs by omega), if_pos (show rs + r + m - 2 * rs < rs by omega)]
            simp only [wayTo]; congr 1; omega
          · rw [if_neg q3, if_neg (show ¬ rs + r + m < 2 * rs by omega), if_neg (show ¬ rs + r + m - 2 * rs < rs by omega)]
            simp only [wayTo]; congr 1; omega
    · rw [show cutOf (.wheel g h k) fs rs f = (0, (f, 1, 0), (f, 1, 0)) from if_neg c, mv_out (q := .wheel g h k) c (List.cons_ne_nil _ _)]
      simp only [ite_self, wayTo]
      congr 1
      omega
theorem cut_sign {q : C} {fs rs f : Int} : ((cutOf q fs rs f).2.1.2.1 = 1 ∨ (cutOf q fs rs f).2.1.2.1 = -1) ∧ ((cutOf q fs rs f).2.2.2.1 = 1 ∨ (cutOf q fs rs f).2.2.2.1 = -1) := by
  cases q <;> simp only [cutOf, cutWheel] <;> (repeat' split) <;> simp
def sp_moved_by : Sp := fun vs H Q _ => ∃ (p : Addr) (q : C) (fs rs r f : Int) (pl : Addr), vs = [.ref p, .int fs, .int rs, .ref pl] ∧ H p = some (.tup q.vals) ∧ H pl = some (.tup [.int r, .int f]) ∧ (fs = 2 ∨ fs = 3) ∧ 0 < rs ∧ rs.natAbs < 2 ^ 200 ∧ (0 ≤ f ∧ f < fs) ∧ (0 ≤ r ∧ r < rs) ∧ ∀ p1 H1, Ex H H1 → H1 p1 = some (.tup (pairV (mv q fs rs r f))) → Q (.ref p1) H1
theorem u_moved_by {fs rs r f : Int} {pl : Addr} (h0 : H p = some (.tup q.vals)) (h : H pl = some (.tup [.int r, .int f])) (h1 : fs = 2 ∨ fs = 3) (h2 : 0 < rs) (h3 : rs.natAbs < 2 ^ 200) (h4 : 0 ≤ f ∧ f < fs) (h5 : 0 ≤ r ∧ r < rs) (k : ∀ p1 H1, Ex H H1 → H1 p1 = some (.tup (pairV (mv q fs rs r f))) → Q (.ref p1) H1) :
    sp_moved_by [.ref p, .int fs, .int rs, .ref pl] H Q E := ⟨p, q, fs, rs, r, f, pl, rfl, h0, h, h1, h2, h3, h4, h5, k⟩
local macro_rules | `(tactic| walk_at "use") => `(tactic| first
  | ((with_reducible refine' u_moved_by_open_call 0 ?hz ?hq ?h1 ?h2 ?h3 ?h4 ?_); (case hz => exact rfl); (case hq => walk_at "hk"); (case h1 => assumption); (case h2 => assumption); (case h3 => assumption); (case h4 => assumption); intro _ _ _ _)
  | ((with_reducible refine' u_moved_by_open_call 1 ?hz ?hq ?h1 ?h2 ?h3 ?h4 ?_); (case hz => exact rfl); (case hq => walk_at "hk"); (case h1 => assumption); (case h2 => assumption); (case h3 => assumption); (case h4 => assumption); intro _ _ _ _)
  | ((with_reducible refine' u_moved_by_open_call 2 ?hz ?hq ?h1 ?h2 ?h3 ?h4 ?_); (case hz => exact rfl); (case hq => walk_at "hk"); (case h1 => assumption); (case h2 => assumption); (case h3 => assumption); (case h4 => assumption); intro _ _ _ _)
  | ((with_reducible refine' u_moved_by_open_call 3 ?hz ?hq ?h1 ?h2 ?h3 ?h4 ?_); (case hz => exact rfl); (case hq => walk_at "hk"); (case h1 => assumption); (case h2 => assumption); (case h3 => assumption); (case h4 => assumption); intro _ _ _ _))
theorem ok_moved_by (T : Txt K w mg a) : FnOk P w K mg base CX0 3 a.a_moved_by a.fd_moved_by ["call", "files", "rows", "place"] sp_moved_by := by
  refine T.F_moved_by.ok sc_moved_by (fun vs H Q E h => ?_) (fun cdv A outer s H vs Q E hr h => ?_)
  · obtain ⟨p, q, fs, rs, r, f, pl, rfl, _⟩ := h; rfl
  · obtain ⟨p, q, fs, rs, r, f, pl, rfl, hp, hpl, hfs, hrs, hbig, hff, hrr, kk⟩ := h
    have G_is_straight := ok_is_straight (P := P) (base := base) T
    have G_cut_of := ok_cut_of (P := P) (base := base) T
    have G_moved_by_open_call := ok_moved_by_open_call (P := P) (base := base) T
    refine ⟨_, (pss_cons (ps_if (pt_not (pt_val (pe_call G_is_straight (hr.mono (by decide)) (by rfl) T.m_is_straight T.k_is_straight T.b_is_straight .nil pass0 (pa_cons (pv 0) pa_nil)))) (pss_one (ps_ret (pe_call G_moved_by_open_call (hr.mono (by decide)) (by rfl) T.m_moved_by_open_call T.k_moved_by_open_call T.b_moved_by_open_call .nil pass0 (pa_cons (pe_ix ix_tup (pv 0) pe_int (fun _ _ => rfl)) (pa_cons (pv 1) (pa_cons (pv 2) (pa_cons (pv 3) pa_nil))))))) pss_nil)
      (pss_cons (ps_asg (pv 3) (pg_tup rfl (pgs_cons (pg_name (i := 4) sc_moved_by.nd rfl (Or.inl rfl)) (pgs_cons (pg_name (i := 5) sc_moved_by.nd rfl (Or.inl rfl)) pgs_nil))))
      (pss_cons (ps_asg (pe_call G_cut_of (hr.mono (by decide)) (by rfl) T.m_cut_of T.k_cut_of T.b_cut_of .nil pass0 (pa_cons (pv 0) (pa_cons (pv 1) (pa_cons (pv 2) (pa_cons (pv 5) pa_nil))))) (pg_tup rfl (pgs_cons (pg_name (i := 6) sc_moved_by.nd rfl (Or.inl rfl)) (pgs_cons (pg_name (i := 7) sc_moved_by.nd rfl (Or.inl rfl)) (pgs_cons (pg_name (i := 8) sc_moved_by.nd rfl (Or.inl rfl)) pgs_nil)))))
      (pss_cons (ps_asg (pe_ifExp (pt_cmpR op_lt (pv 4) (pv 6) (nomark _)) (pv 7) (pv 8)) (pg_tup rfl (pgs_cons (pg_name (i := 9) sc_moved_by.nd rfl (Or.inl rfl)) (pgs_cons (pg_name (i := 10) sc_moved_by.nd rfl (Or.inl rfl)) (pgs_cons (pg_name (i := 11) sc_moved_by.nd rfl (Or.inl rfl)) pgs_nil)))))
      (pss_one (ps_ret (pe_tup (pa_cons (pe_op op_add (pe_op op_mul (pv 10) (pv 4)) (pv 11)) (pa_cons (pv 9) pa_nil))))))))), ?_⟩
    cases hq : q.straight with
    | false =>
      cases q with
      | halve => walk_at "rd"; rename_i h; exact kk _ _ (by walk_at "ex") h
      | pair => walk_at "rd"; rename_i h; exact kk _ _ (by walk_at "ex") h
      | others => walk_at "rd"; rename_i h; exact kk _ _ (by walk_at "ex") h
      | fill => walk_at "rd"; rename_i h; exact kk _ _ (by walk_at "ex") h
      | _ => cases hq
    | true =>
      walk_at "rd"
      rw [hq]
      walk_at "rd"
      refine u_cut_of (by walk_at "hk") hq hrs fun t H1 e1 c => ?_
      obtain ⟨pa, pb, h0, h1, h2⟩ := c.ex
      have sg := @cut_sign q fs rs f
      have cm := @cut_mv q fs rs r f hq hrr.1 hrr.2
      generalize (cutOf q fs rs f).1 = cc at h0 cm
      generalize (cutOf q fs rs f).2.1 = wa at h1 sg cm
      generalize (cutOf q fs rs f).2.2 = wb at h2 sg cm
      obtain ⟨wa1, wa2, wa3⟩ := wa
      obtain ⟨wb1, wb2, wb3⟩ := wb
      simp only [wayV] at h1 h2
      have sa : -2 < wa2 ∧ wa2 < 2 := by
        have := sg.1
        simp only at this
        omega
      have sb : -2 < wb2 ∧ wb2 < 2 := by
        have := sg.2
        simp only at this
        omega
      walk_at "rd"
      · rename_i c1 t2 H2 e2 f2 h3
        rw [if_pos c1] at cm
        exact kk _ _ (by walk_at "ex") (by rw [← cm]; exact h3)
      · rename_i c1 t2 H2 e2 f2 h3
        rw [if_neg c1] at cm
        exact kk _ _ (by walk_at "ex") (by rw [← cm]; exact h3)
end
end My

set_option Elab.async false
set_option linter.all false
set_option maxRecDepth 100000
set_option maxHeartbeats 8000000
namespace My
open PySem PySem.Spec PyProof.Rows L2 Sx
local macro_rules | `(tactic| walk_at "nb") => `(tactic| first | exact NB.tup | exact NB.ints | exact NB.len (of_decide_eq_true rfl) | exact NB.at0b rfl | exact NB.at3b rfl | exact NB.ins | exact NB.own | exact NB.frz | exact NB.refs (by assumption) | assumption)
local macro_rules | `(tactic| walk_at "ne") => `(tactic| first | assumption | exact Ne.symm (by assumption) | exact ne_of_none (by assumption) (by assumption) | exact Ne.symm (ne_of_none (by assumption) (by assumption)))
local macro_rules | `(tactic| walk_at "hk") => `(tactic| first
  | assumption
  | exact upd_same
  | (refine' (upd_ne ?hkne).trans ?hkq; (case hkne => walk_at "ne"); (case hkq => walk_at "hk"))
  | (refine' Ex.kp (by assumption) _ _ ?hkq ?hkn; (case hkq => walk_at "hk"); (case hkn => walk_at "nb")))
local macro_rules | `(tactic| walk_at "rd1") => `(tactic| first
  | ((with_reducible refine' x_var ?hx ?_); (case hx => exact rfl))
  | with_reducible refine x_c ?_
  | with_reducible refine x_op ?_
  | with_reducible refine x_un ?_
  | with_reducible refine x_I0 ?_
  | with_reducible refine x_U ?_
  | ((with_reducible refine x_I ?hc ?_); (case hc => first | exact (by decide : (0 : Int) < _) | (show (0 : Int) < _; omega) | (show CMul _ _; first | exact .inl ⟨by omega, by omega⟩ | exact .inr ⟨by omega, by omega⟩) | (show CDiv _ _; exact ⟨by omega, by omega⟩) | (show CDivW _ _; exact wide_div (b := 200) (by omega) (by assumption) (by decide) (by decide)) | (show CDivW _ _; exact wide_div (b := 31) (by omega) (by omega) (by decide) (by decide))))
  | with_reducible refine x_EqI ?_
  | with_reducible refine x_NeI ?_
  | ((with_reducible refine x_EqSt ?h ?_); (case h => decide +kernel))
  | ((with_reducible refine x_EqSf ?h ?_); (case h => decide +kernel))
  | ((with_reducible refine x_NeSt ?h ?_); (case h => decide +kernel))
  | ((with_reducible refine x_NeSf ?h ?_); (case h => decide +kernel))
  | with_reducible refine x_EqS ?_
  | with_reducible refine x_NeS ?_
  | ((with_reducible refine' x_ixL ?hq ?hi ?_); (case hq => walk_at "hk"); (case hi => first | exact rfl | assumption))
  | ((with_reducible refine' x_ixT ?hq ?hi ?_); (case hq => walk_at "hk"); (case hi => first | exact rfl | assumption))
  | with_reducible refine x_chain ?_
  | with_reducible refine x_tup ?_
  | with_reducible refine x_lst ?_
  | ((with_reducible refine x_lenNew ?hl ?_); (case hl => exact Nat.le_of_ble_eq_true rfl); intro _ _ _ _ _)
  | ((with_reducible refine x_new ?_); intro _ _ _ _ _)
  | with_reducible refine x_sl ?_
  | with_reducible refine x_noPart ?_
  | with_reducible refine x_part ?_
  | with_reducible refine x_ex_int ?_
  | with_reducible refine x_ex_bl ?_
  | with_reducible refine x_ex_2 ?_
  | with_reducible refine x_test ?_
  | with_reducible refine x_B ?_
  | with_reducible refine x_and ?_
  | with_reducible refine x_or ?_
  | with_reducible refine x_not ?_
  | with_reducible refine x_andV ?_
  | with_reducible refine x_orV ?_
  | with_reducible refine x_notV ?_
  | with_reducible refine x_ifE ?_
  | with_reducible refine x_iteT ?_
  | with_reducible refine x_iteF ?_
  | ((with_reducible refine x_iteD ?_ ?_) <;> intro _)
  | ((with_reducible refine x_iteN ?_ ?_) <;> intro _)
  | with_reducible refine x_if ?_
  | with_reducible refine x_seq ?_
  | with_reducible refine x_next ?_
  | with_reducible refine x_asg ?_
  | with_reducible refine x_gName ?_
  | ((with_reducible refine' x_gTup ?hq ?hn ?_); (case hq => walk_at "hk"); (case hn => exact rfl))
  | with_reducible refine x_gCons ?_
  | with_reducible refine x_gNil ?_
  | ((with_reducible refine' x_gConsE ?h ?_); (case h => exact rfl))
  | ((with_reducible refine x_gNilE ?h ?_); (case h => exact rfl))
  | with_reducible refine x_ret ?_
  | with_reducible refine x_drop ?_
  | with_reducible refine x_par ?_
  | ((with_reducible refine' x_aug ?hx ?_); (case hx => exact rfl))
  | with_reducible refine x_ipI ?_
  | with_reducible refine x_augS ?_
  | with_reducible refine x_gSub ?_
  | ((with_reducible refine' x_setL ?hq ?hi ?_); (case hq => walk_at "hk"); (case hi => first | exact rfl | assumption))
  | with_reducible refine x_cons ?_
  | with_reducible refine x_nil ?_
  | with_reducible refine x_CB ?_
  | with_reducible refine x_abs ?_
  | with_reducible refine x_intI ?_
  | with_reducible refine x_intB ?_
  | ((with_reducible refine' x_lenL ?hq ?_); (case hq => walk_at "hk"))
  | ((with_reducible refine' x_lenT ?hq ?_); (case hq => walk_at "hk"))
  | ((with_reducible refine x_iteTe ?h ?_); (case h => exact rfl))
  | ((with_reducible refine x_iteFe ?h ?_); (case h => exact rfl))
  | walk_at "use"
  | with_reducible refine x_callS ?_
  | ((with_reducible refine x_lc ?_))
  | ((with_reducible refine x_for ?_))
  | ((with_reducible refine x_iR1 ?_))
  | ((with_reducible refine x_iL ?_))
  | ((with_reducible refine x_iZ ?_))
  | ((with_reducible refine x_yes ?_))
  | ((with_reducible refine' x_NIDt ?hq ?_); (case hq => assumption))
  | ((with_reducible refine' x_NIDf ?hq ?_); (case hq => assumption))
  | ((with_reducible refine' x_IIDf ?hq ?_); (case hq => assumption))
  | ((with_reducible refine' x_IIDt ?hq ?_); (case hq => assumption))
  | ((with_reducible refine' x_ixDs ?hd ?hq ?_); (case hd => assumption); (case hq => assumption))
  | ((with_reducible refine x_InSt ?h ?_); (case h => decide +kernel))
  | ((with_reducible refine x_InSf ?h ?_); (case h => decide +kernel))
  | ((with_reducible refine' x_notInI ?hq ?_); (case hq => walk_at "hk"))
  | ((with_reducible refine' x_inTt ?hq ?hv ?ha ?he ?_); (case hq => walk_at "hk"); (case hv => exact rfl); (case ha => exact rfl); (case he => decide +kernel))
  | ((with_reducible refine' x_inTf ?hq ?hv ?ha ?he ?_); (case hq => walk_at "hk"); (case hv => exact rfl); (case ha => exact rfl); (case he => decide +kernel))
  | ((with_reducible refine' x_slT ?hq ?hw ?_); (case hq => walk_at "hk"); (case hw => with_unfolding_all exact of_decide_eq_true rfl))
  | ((with_reducible refine' x_slL ?hq ?_); (case hq => walk_at "hk"))
  | ((with_reducible refine' x_catT ?hq ?hr ?n1 ?n2 ?hl ?_); (case hq => walk_at "hk"); (case hr => walk_at "hk"); (case n1 => exact List.cons_ne_nil _ _); (case n2 => exact List.cons_ne_nil _ _); (case hl => exact Nat.le_of_ble_eq_true rfl))
  | ((with_reducible refine x_bm ?_))
  | ((with_reducible refine x_lstRg ?_))
  | ((with_reducible refine x_rg1 ?_))
  | ((with_reducible refine And.intro ?h ?_); (case h => exact tyL (by assumption)))
  | dsimp only)
local macro_rules | `(tactic| walk_at "use") => `(tactic| fail)
local macro_rules | `(tactic| walk_at "rd") => `(tactic| repeat' (walk_at "rd1"))
local macro_rules | `(tactic| walk_at "ex") => `(tactic| first | exact Ex.refl _ | assumption | (refine' Ex.trans ?he (by assumption); (case he => walk_at "ex")))

open Cl
/-! the columns behind a call -/
def onLine (fs rs : Int) (x : Int × Int) : Prop := (0 ≤ x.1 ∧ x.1 < rs) ∧ (0 ≤ x.2 ∧ x.2 < fs)
/-- who stands where, behind a call -/
def mvg (q : C) (n m : Nat) (g : Int → Int → Int) : Int → Int → Int := fun r f => g (mv q.turned n m r f).1 (mv q.turned n m r f).2
section
variable {n m : Nat} {g : Int → Int → Int}
theorem beh_all {k : Int} (hm : 0 < m) : tab n m (mvg (.all k) n m g) = (tab n m g).map fun l => l.drop (k % m).toNat ++ l.take (k % m).toNat := by
  have h0 := Int.emod_nonneg k (show (m : Int) ≠ 0 by omega)
  have h1 := Int.emod_lt_of_pos k (show (0 : Int) < m by omega)
  unfold tab
  rw [List.map_map]
  refine List.map_congr_left fun f _ => ?_
  show col m _ f = (col m g f).drop _ ++ (col m g f).take _
  rw [rot_col (by omega)]
  refine col_congr fun r _ _ => ?_
  show g ((r - -k) % m) f = g ((r + ((k % m).toNat : Int)) % m) f
  rw [Int.toNat_of_nonneg h0, Int.add_emod_emod, Int.sub_neg]
theorem beh_up {f : Nat} {k : Int} (hm : 0 < m) (hf : f < n) : tab n m (mvg (.up f k) n m g) = (tab n m g).set f ((col m g f).drop (k % m).toNat ++ (col m g f).take (k % m).toNat) := by
  have h0 := Int.emod_nonneg k (show (m : Int) ≠ 0 by omega)
  have h1 := Int.emod_lt_of_pos k (show (0 : Int) < m by omega)
  rw [rot_col (by omega), tab_set hf]
  refine tab_congr fun r x _ _ _ _ => ?_
  show g (mv (.up f (-k)) n m r x).1 (mv (.up f (-k)) n m r x).2 = _
  by_cases c : x = f
  · subst c
    rw [mv_up (by simp [C.named]), if_pos rfl]
    show g ((r - -k) % m) f = _
    rw [Int.toNat_of_nonneg h0, Int.add_emod_emod, Int.sub_neg]
  · rw [mv_out (q := .up f (-k)) (by simpa [C.named] using c) (List.cons_ne_nil _ _), if_neg c]
theorem beh_swap {a b : Nat} (ha : a < n) (hb : b < n) (hab : a ≠ b) : tab n m (mvg (.swap a b) n m g) = ((tab n m g).set a (col m g b)).set b (col m g a) := by
  rw [show col m g b = col m (fun r _ => g r b) a from rfl, tab_set ha, show col m g a = col m (fun r _ => g r a) b from rfl, tab_set hb]
  refine tab_congr fun r x _ _ _ _ => ?_
  show g (mv (.swap a b) n m r x).1 (mv (.swap a b) n m r x).2 = _
  by_cases c : x = b
  · rw [mv_swap (by simp [C.named, c]), if_pos c]
    show g r (a + b - x) = _
    rw [c, show (a : Int) + b - b = a by omega]
  · rw [if_neg c]
    by_cases d : x = a
    · rw [mv_swap (by simp [C.named, d]), if_pos d]
      show g r (a + b - x) = _
      rw [d, show (a : Int) + b - a = b by omega]
    · rw [mv_out (q := .swap a b) (by simp [C.named, c, d]) (List.cons_ne_nil _ _), if_neg d]
theorem beh_about : tab n m (mvg .about n m g) = (tab n m g).reverse.map List.reverse := by
  symm
  refine is_tab (by simp [tab]) fun i hi => ?_
  rw [List.getElem?_map, List.getElem?_reverse (by rw [tab_len]; exact hi), tab_len, tab_get (by omega)]
  show some (col m g _).reverse = _
  rw [col_rev, show ((n - 1 - i : Nat) : Int) = n - 1 - i by omega]
  rfl
theorem beh_front {a b : Nat} (hm : 0 < m) (ha : a < n) (hb : b < n) (hab : a ≠ b) : tab n m (mvg (.front a b) n m g) = ((tab n m g).set a ((col m g b).take 1 ++ (col m g a).drop 1)).set b ((col m g a).take 1 ++ (col m g b).drop 1) := by
  have mix : ∀ x y : Nat, (col m g x).take 1 ++ (col m g y).drop 1 = col m (fun r _ => if r = 0 then g r x else g r y) y := fun x y => by
    refine is_col (by simp [col]; omega) fun i hi => ?_
    rw [List.getElem?_append]
    simp only [List.length_take, col_len]
    by_cases h : i < min 1 m
    · rw [if_pos h, List.getElem?_take, if_pos (by omega), col_get hi, if_pos (by omega)]
    · rw [if_neg h, List.getElem?_drop, show 1 + (i - min 1 m) = i by omega, col_get hi, if_neg (by omega)]
  rw [mix, mix, show col m (fun r _ => if r = 0 then g r b else g r a) a = col m (fun r x => if r = 0 then g r b else g r a) a from rfl, tab_set ha, tab_set hb]
  refine tab_congr fun r x _ _ _ _ => ?_
  show g (mv (.front a b) n m r x).1 (mv (.front a b) n m r x).2 = _
  by_cases c : x = b
  · rw [if_pos c]
    by_cases z : r = 0
    · rw [mv_front0 (by simp [C.named, c]) z, if_pos z]
      show g r (a + b - x) = _
      rw [c, show (a : Int) + b - b = a by omega]
    · rw [mv_front1 (by simp [C.named, c]) z, if_neg z, c]
  · rw [if_neg c]
    by_cases d : x = a
    · rw [if_pos d]
      by_cases z : r = 0
      · rw [mv_front0 (by simp [C.named, d]) z, if_pos z]
        show g r (a + b - x) = _
        rw [d, show (a : Int) + b - a = b by omega]
      · rw [mv_front1 (by simp [C.named, d]) z, if_neg z, d]
    · rw [mv_out (q := .front a b) (by simp [C.named, c, d]) (List.cons_ne_nil _ _), if_neg d]
/-! the ring of a wheel -/
def ring (m : Nat) (g : Int → Int → Int) (a b : Int) : List Int := (col m g a).reverse ++ col m g b
theorem ring_len {a b : Int} : (ring m g a b).length = 2 * m := by simp [ring, col]; omega
theorem ring_get {a b : Int} {i : Nat} (h : i < 2 * m) : (ring m g a b)[i]? = some (g (wheelAt i m a b).1 (wheelAt i m a b).2) := by
  unfold ring wheelAt
  rw [List.getElem?_append]
  simp only [List.length_reverse, col_len]
  by_cases c : i < m
  · rw [if_pos c, if_pos (by omega), List.getElem?_reverse (by rw [col_len]; exact c), col_len, col_get (by omega), show ((m - 1 - i : Nat) : Int) = m - 1 - i by omega]
  · rw [if_neg c, if_neg (by omega), col_get (by omega), show ((i - m : Nat) : Int) = i - m by omega]
theorem rot_get {l : List Int} {c i : Nat} (hc : c < l.length) (hi : i < l.length) : (l.drop c ++ l.take c)[i]? = l[(i + c) % l.length]? := by
  rw [List.getElem?_append]
  simp only [List.length_drop]
  by_cases h : i < l.length - c
  · rw [if_pos h, List.getElem?_drop, Nat.mod_eq_of_lt (by omega), Nat.add_comm]
  · rw [if_neg h, List.getElem?_take, if_pos (by omega), show i + c = (i - (l.length - c)) + l.length by omega, Nat.add_mod_right, Nat.mod_eq_of_lt (by omega)]
theorem beh_wheel {a b : Nat} {k : Int} (hm : 0 < m) (ha : a < n) (hb : b < n) (hab : a ≠ b) (L : List Int) (hL : L = (ring m g a b).drop (-k % (2 * m : Nat)).toNat ++ (ring m g a b).take (-k % (2 * m : Nat)).toNat) :
    tab n m (mvg (.wheel a b k) n m g) = ((tab n m g).set a (L.take m).reverse).set b (L.drop m) := by
  have h0 := Int.emod_nonneg (-k) (show ((2 * m : Nat) : Int) ≠ 0 by omega)
  have h1 := Int.emod_lt_of_pos (-k) (show (0 : Int) < (2 * m : Nat) by omega)
  have hLl : L.length = 2 * m := by rw [hL]; simp only [List.length_append, List.length_drop, List.length_take, ring_len]; omega
  have hLg : ∀ i : Nat, i < 2 * m → L[i]? = some (g (wheelAt (((i : Int) + -k) % (2 * m)) m a b).1 (wheelAt (((i : Int) + -k) % (2 * m)) m a b).2) := fun i hi => by
    have e : (((i + (-k % (2 * m : Nat)).toNat) % (2 * m) : Nat) : Int) = ((i : Int) + -k) % (2 * m) := by
      rw [Int.natCast_emod, Int.natCast_add, Int.toNat_of_nonneg h0, Int.add_emod_emod]
      simp
    rw [hL, rot_get (by rw [ring_len]; omega) (by rw [ring_len]; exact hi), ring_len, ring_get (Nat.mod_lt _ (by omega)), e]
  have ea : (L.take m).reverse = col m (fun r _ => g (wheelAt ((m - 1 - r + -k) % (2 * m)) m a b).1 (wheelAt ((m - 1 - r + -k) % (2 * m)) m a b).2) a := by
    refine is_col (by rw [List.length_reverse, List.length_take]; omega) fun i hi => ?_
    rw [List.getElem?_reverse (by rw [List.length_take]; omega), List.length_take, show min m L.length - 1 - i = m - 1 - i by omega, List.getElem?_take, if_pos (by omega), hLg _ (by omega), show ((m - 1 - i : Nat) : Int) = m - 1 - i by omega]
  have eb : L.drop m = col m (fun r _ => g (wheelAt ((m + r + -k) % (2 * m)) m a b).1 (wheelAt ((m + r + -k) % (2 * m)) m a b).2) b := by
    refine is_col (by rw [List.length_drop]; omega) fun i hi => ?_
    rw [List.getElem?_drop, hLg _ (by omega), show ((m + i : Nat) : Int) = m + i by omega]
  rw [ea, eb, tab_set ha, tab_set hb]
  refine tab_congr fun r x _ _ _ _ => ?_
  show g (mv (.wheel a b (-k)) n m r x).1 (mv (.wheel a b (-k)) n m r x).2 = _
  by_cases c : x = b
  · have : x ≠ a := by omega
    rw [if_pos c, mv_wheel (by simp [C.named, c])]
    unfold wheelTo
    rw [if_neg this]
  · rw [if_neg c]
    by_cases d : x = a
    · rw [if_pos d, mv_wheel (by simp [C.named, d])]
      unfold wheelTo
      rw [if_pos d]
    · rw [mv_out (q := .wheel a b (-k)) (by simp [C.named, c, d]) (List.cons_ne_nil _ _), if_neg d]
/-! open calls -/
theorem ord_get {i : Nat} (h : i < n * m) : (ord n m g)[i]? = some (g ((i : Int) / n) ((i : Int) % n)) := by
  unfold ord
  rw [List.getElem?_map, List.getElem?_range h]
  rfl
theorem run_lt {i r : Nat} (hi : i < n) (hr : r < m) : i * m + r < n * m := by
  have : (i + 1) * m ≤ n * m := Nat.mul_le_mul_right m hi
  rw [Nat.add_mul, Nat.one_mul] at this
  omega
theorem beh_halve : tab n m (mvg .halve n m g) = (List.range n).map fun i => ((ord n m g).drop (i * m)).take m := by
  symm
  refine is_tab (by simp) fun i hi => ?_
  rw [List.getElem?_map, List.getElem?_range hi]
  refine congrArg some (is_col ?_ fun r hr => ?_)
  · have : (i + 1) * m ≤ n * m := Nat.mul_le_mul_right m hi
    rw [Nat.add_mul, Nat.one_mul] at this
    rw [List.length_take, List.length_drop, ord_len]; omega
  · rw [List.getElem?_take, if_pos hr, List.getElem?_drop, ord_get (run_lt hi hr)]
    show _ = some (g (((i : Int) * m + r) / n) (((i : Int) * m + r) % n))
    rw [show ((i * m + r : Nat) : Int) = (i : Int) * m + r by simp]
theorem flat_get {i r : Nat} (hi : i < n) (hr : r < m) : ((tab n m g).flatten)[i * m + r]? = some (g r i) := by
  have gen : ∀ (N : Nat) (G : Int → Int → Int) (i : Nat), i < N → ((tab N m G).flatten)[i * m + r]? = some (G r i) := by
    intro N
    induction N with
    | zero => intro G i h; omega
    | succ N ih =>
      intro G i h
      have e : tab (N + 1) m G = col m G 0 :: tab N m (fun r f => G r (f + 1)) := by
        unfold tab
        rw [List.range_succ_eq_map, List.map_cons, List.map_map]
        congr 1
      rw [e, List.flatten_cons, List.getElem?_append, col_len]
      cases i with
      | zero => rw [Nat.zero_mul, Nat.zero_add, if_pos hr, col_get hr]; rfl
      | succ i =>
        rw [if_neg (by rw [Nat.add_mul]; omega), show (i + 1) * m + r - m = i * m + r by rw [Nat.add_mul]; omega, ih _ i (by omega)]
        rfl
  exact gen n g i hi
theorem flat_len : ((tab n m g).flatten).length = n * m := by
  have : ∀ N (G : Int → Int → Int), ((tab N m G).flatten).length = N * m := fun N G => by
    unfold tab
    rw [List.length_flatten, List.map_map]
    have : (List.range N).map (List.length ∘ fun f : Nat => col m G f) = List.replicate N m := by
      refine List.ext_getElem? fun i => ?_
      rw [List.getElem?_map, List.getElem?_replicate]
      by_cases h : i < N
      · rw [List.getElem?_range h, if_pos h]; exact congrArg some (col_len ..)
      · rw [List.getElem?_eq_none (by simpa using h), if_neg h]; rfl
    rw [this, List.sum_replicate_nat]
  exact this n g
theorem flat_is (hm : 0 < m) : (tab n m g).flatten = (List.range (n * m)).map fun i : Nat => g ((i : Int) % m) ((i : Int) / m) := by
  refine List.ext_getElem? fun i => ?_
  by_cases h : i < n * m
  · rw [List.getElem?_map, List.getElem?_range h]
    have h1 : i / m < n := Nat.div_lt_of_lt_mul (by rw [Nat.mul_comm]; exact h)
    have h2 : i % m < m := Nat.mod_lt _ hm
    have := flat_get (g := g) h1 h2
    rw [Nat.div_add_mod' ] at this
    rw [this]
    show some (g ((i % m : Nat) : Int) ((i / m : Nat) : Int)) = _
    rw [Int.natCast_emod, Int.natCast_ediv]
    rfl
  · rw [List.getElem?_eq_none (by rw [flat_len]; omega), List.getElem?_eq_none (by simpa using h)]
theorem beh_others (hm : 0 < m) : tab n m (mvg .others n m g) = (tab n m g).map fun l => ((List.range ((m + 1) / 2)).map fun i => 2 * i).filterMap (l[·]?) ++ ((List.range (m / 2)).map fun i => 1 + 2 * i).filterMap (l[·]?) := by
  unfold tab
  rw [List.map_map]
  refine List.map_congr_left fun f _ => ?_
  symm
  show (_ : List Nat).filterMap ((col m g f)[·]?) ++ (_ : List Nat).filterMap ((col m g f)[·]?) = _
  rw [pick_col (fun k hk => by obtain ⟨i, hi, rfl⟩ := List.mem_map.mp hk; have := List.mem_range.mp hi; omega), pick_col (fun k hk => by obtain ⟨i, hi, rfl⟩ := List.mem_map.mp hk; have := List.mem_range.mp hi; omega)]
  refine is_col (by simp; omega) fun i hi => ?_
  rw [List.getElem?_append]
  simp only [List.length_map, List.length_range]
  show _ = some (g (if (i : Int) < ((m : Int) + 1) / 2 then (2 * (i : Int), (f : Int)) else (2 * ((i : Int) - ((m : Int) + 1) / 2) + 1, (f : Int))).1 (if (i : Int) < ((m : Int) + 1) / 2 then (2 * (i : Int), (f : Int)) else (2 * ((i : Int) - ((m : Int) + 1) / 2) + 1, (f : Int))).2)
  by_cases h : i < (m + 1) / 2
  · rw [if_pos h, if_pos (by omega), List.getElem?_map, List.getElem?_map, List.getElem?_range h]
    show some (g ((2 * i : Nat) : Int) f) = _
    rw [show ((2 * i : Nat) : Int) = 2 * (i : Int) by omega]
  · rw [if_neg h, if_neg (by omega), List.getElem?_map, List.getElem?_map, List.getElem?_range (by omega)]
    show some (g ((1 + 2 * (i - (m + 1) / 2) : Nat) : Int) f) = _
    rw [show ((1 + 2 * (i - (m + 1) / 2) : Nat) : Int) = 2 * ((i : Int) - ((m : Int) + 1) / 2) + 1 by omega]

theorem map_get {l : List Int} {i : Nat} {x : Int} (h : l[i]? = some x) : (l.map V.int)[i]? = some (.int x) := by rw [List.getElem?_map, h]; rfl
theorem is_ints {l : List V} {l' : List Int} (hl : l.length = l'.length) (h : ∀ i : Nat, i < l'.length → l[i]? = (l'.map V.int)[i]?) : l = l'.map V.int := by
  refine List.ext_getElem? fun i => ?_
  by_cases c : i < l'.length
  · exact h i c
  · rw [List.getElem?_eq_none (by omega), List.getElem?_eq_none (by simpa using c)]
theorem fill_put {f : Nat} (hm : 0 < m) : Er.putV (Er.putV ((col m g f).map V.int) (steps 0 2 ((m + 1) / 2)) (((col m g f).take ((m + 1) / 2)).map V.int)) (steps 1 2 (m / 2)) (((col m g f).drop ((m + 1) / 2)).map V.int) = (col m (mvg .fill n m g) f).map V.int := by
  refine is_ints (by rw [Er.putV_length, Er.putV_length, List.length_map, col_len, col_len]) fun i hi => ?_
  rw [col_len] at hi
  rw [map_get (col_get hi)]
  have tgt : mvg .fill n m g i f = g ((i : Int) / 2 + (i : Int) % 2 * (((m : Int) + 1) / 2)) f := rfl
  rw [tgt]
  by_cases p : i % 2 = 0
  · have hx : i ∉ steps 1 2 (m / 2) := fun h => by obtain ⟨j, _, e⟩ := steps_mem.mp h; omega
    rw [put_out hx]
    have e : i = 0 + 2 * (i / 2) := by omega
    have := put_steps (xs := (col m g f).map V.int) (ys := ((col m g f).take ((m + 1) / 2)).map V.int) (s := 0) (d := 2) (c := (m + 1) / 2) (j := i / 2) (y := .int (g ((i / 2 : Nat) : Int) f)) (by decide) (by omega) (map_get (by rw [List.getElem?_take, if_pos (by omega), col_get (by omega)])) (by rw [List.length_map, col_len]; omega)
    rw [← e] at this
    rw [this, show (i : Int) / 2 + (i : Int) % 2 * (((m : Int) + 1) / 2) = ((i / 2 : Nat) : Int) by rw [show (i : Int) % 2 = 0 by omega]; omega]
  · have e : i = 1 + 2 * (i / 2) := by omega
    have := put_steps (xs := Er.putV ((col m g f).map V.int) (steps 0 2 ((m + 1) / 2)) (((col m g f).take ((m + 1) / 2)).map V.int)) (ys := ((col m g f).drop ((m + 1) / 2)).map V.int) (s := 1) (d := 2) (c := m / 2) (j := i / 2) (y := .int (g (((m + 1) / 2 + i / 2 : Nat) : Int) f)) (by decide) (by omega) (map_get (by rw [List.getElem?_drop, col_get (by omega)])) (by rw [Er.putV_length, List.length_map, col_len]; omega)
    rw [← e] at this
    rw [this, show (i : Int) / 2 + (i : Int) % 2 * (((m : Int) + 1) / 2) = (((m + 1) / 2 + i / 2 : Nat) : Int) by rw [show (i : Int) % 2 = 1 by omega]; omega]
/-! the order, column by column -/
def ordP (n m : Nat) (g : Int → Int → Int) (j : Nat) : List Int := (List.range (n * m)).map fun i : Nat => if i % n < j then g ((i : Int) / n) ((i : Int) % n) else 0
theorem ordP_len {j : Nat} : (ordP n m g j).length = n * m := by simp [ordP]
theorem ordP_get {j i : Nat} (h : i < n * m) : (ordP n m g j)[i]? = some (if i % n < j then g ((i : Int) / n) ((i : Int) % n) else 0) := by
  unfold ordP
  rw [List.getElem?_map, List.getElem?_range h]
  rfl
theorem ordP_all (hn : 0 < n) : ordP n m g n = ord n m g := List.map_congr_left fun i _ => if_pos (Nat.mod_lt _ hn)
theorem ordP_none : ordP n m g 0 = List.replicate (n * m) 0 := by
  refine List.ext_getElem? fun i => ?_
  by_cases h : i < n * m
  · rw [ordP_get h, List.getElem?_replicate, if_pos h]; rfl
  · rw [List.getElem?_eq_none (by rw [ordP_len]; omega), List.getElem?_eq_none (by simpa using h)]
theorem ord_put {j : Nat} (hj : j < n) : Er.putV ((ordP n m g j).map V.int) (steps j n m) ((col m g j).map V.int) = (ordP n m g (j + 1)).map V.int := by
  refine is_ints (by rw [Er.putV_length, List.length_map, ordP_len, ordP_len]) fun i hi => ?_
  rw [ordP_len] at hi
  rw [map_get (ordP_get hi)]
  have hd : i / n < m := Nat.div_lt_of_lt_mul hi
  have e : i = i % n + n * (i / n) := (Nat.mod_add_div i n).symm
  by_cases p : i % n = j
  · have := put_steps (xs := (ordP n m g j).map V.int) (ys := (col m g j).map V.int) (s := j) (d := n) (c := m) (j := i / n) (y := .int (g ((i / n : Nat) : Int) j)) (by omega) hd (map_get (col_get hd)) (by rw [List.length_map, ordP_len, ← p, ← e]; exact hi)
    rw [← p, ← e] at this
    rw [p] at this
    rw [this, if_pos (by omega), show (i : Int) % n = ((i % n : Nat) : Int) by simp, p, show (i : Int) / n = ((i / n : Nat) : Int) by simp]
  · have hx : i ∉ steps j n m := fun h => by
      obtain ⟨k, hk, e'⟩ := steps_mem.mp h
      apply p
      rw [← e', Nat.add_mul_mod_self_left, Nat.mod_eq_of_lt hj]
    rw [put_out hx, map_get (ordP_get hi)]
    by_cases q : i % n < j
    · rw [if_pos q, if_pos (by omega)]
    · rw [if_neg q, if_neg (by omega)]
theorem count_n {j : Nat} (hj : j < n) : (n * m - j + n - 1) / n = m := by
  rcases Nat.eq_zero_or_pos m with h | h
  · subst h
    rw [Nat.mul_zero]
    exact Nat.div_eq_of_lt (by omega)
  · have h1 : n ≤ n * m := Nat.le_mul_of_pos_right n h
    rw [show n * m - j + n - 1 = (n - 1 - j) + n * m by omega, Nat.add_mul_div_left _ _ (by omega), Nat.div_eq_of_lt (by omega), Nat.zero_add]
theorem places_col {j : Nat} (hj : j < n) : Er.places (n * m) (some (j : Int)) none (some (n : Int)) = steps j n m := by
  rcases Nat.eq_zero_or_pos m with h | h
  · subst h
    rw [Nat.mul_zero]
    unfold Er.places sliceBounds sliceRange steps
    have : (n : Int) > 0 := by omega
    have h2 : ¬ ((j : Int) < 0) := by omega
    simp only [Option.getD_some, this, if_true, h2, if_false]
    rw [show max (0 : Int) (min (j : Int) ((0 : Nat) : Int)) = 0 by omega]
    simp
  · have h1 : n ≤ n * m := Nat.le_mul_of_pos_right n h
    rw [places_up j (by omega) (by omega), count_n hj]
    rfl
theorem steps_lt {j i : Nat} (hj : j < n) (hi : i < m) : j + n * i < n * m := by
  have : n * (i + 1) ≤ n * m := Nat.mul_le_mul_left n hi
  rw [Nat.mul_add, Nat.mul_one] at this
  omega
theorem pick_range {h : Int → Int} {N : Nat} {ks : List Nat} (hk : ∀ k ∈ ks, k < N) : ks.filterMap (((List.range N).map fun i : Nat => h i)[·]?) = ks.map fun k : Nat => h k := by
  induction ks with
  | nil => rfl
  | cons k ks ih =>
    rw [List.filterMap_cons, List.getElem?_map, List.getElem?_range (hk k (.head _)), List.map_cons, ih fun z hz => hk z (.tail _ hz)]
    rfl
theorem cols_of {h : Int → Int} {j : Nat} (hj : j < n) : Er.pickV (((List.range (n * m)).map fun i : Nat => h i).map V.int) (some (j : Int)) none (some (n : Int)) = (col m (fun r f => h (r * n + f)) j).map V.int := by
  rw [pickV_ints, List.length_map, List.length_range, places_col hj, pick_range (fun k hk => by obtain ⟨i, hi, rfl⟩ := steps_mem.mp hk; exact steps_lt hj hi)]
  refine congrArg (List.map V.int) ?_
  unfold col steps
  rw [List.map_map]
  refine List.map_congr_left fun i _ => ?_
  show h ((j + n * i : Nat) : Int) = _
  rw [show ((j + n * i : Nat) : Int) = (i : Int) * n + j by rw [Int.natCast_add, Int.natCast_mul, Int.mul_comm]; omega]
end
end My

set_option Elab.async false
set_option linter.all false
set_option maxRecDepth 100000
set_option maxHeartbeats 4000000
namespace My
open PySem
def seat (g rs r f : Int) : Int := if f = g then rs - 1 - r else rs + r
theorem wheel_range {g h k rs r f : Int} (hrs : 0 < rs) : 0 ≤ (wheelTo g h k rs r f).1 ∧ (wheelTo g h k rs r f).1 < rs ∧ ((wheelTo g h k rs r f).2 = g ∨ (wheelTo g h k rs r f).2 = h) := by
  unfold wheelTo wheelAt
  have h0 := Int.emod_nonneg ((if f = g then rs - 1 - r else rs + r) + k) (show 2 * rs ≠ 0 by omega)
  have h1 := Int.emod_lt_of_pos ((if f = g then rs - 1 - r else rs + r) + k) (show 0 < 2 * rs by omega)
  generalize ((if f = g then rs - 1 - r else rs + r) + k) % (2 * rs) = y at h0 h1
  by_cases c : y < rs
  · rw [if_pos c]; exact ⟨by show 0 ≤ rs - 1 - y; omega, by show rs - 1 - y < rs; omega, .inl rfl⟩
  · rw [if_neg c]; exact ⟨by show 0 ≤ y - rs; omega, by show y - rs < rs; omega, .inr rfl⟩
theorem seat_at {g h rs y : Int} (hgh : g ≠ h) : seat g rs (wheelAt y rs g h).1 (wheelAt y rs g h).2 = y := by
  unfold wheelAt seat
  by_cases c : y < rs
  · rw [if_pos c, if_pos rfl]; show rs - 1 - (rs - 1 - y) = y; omega
  · rw [if_neg c, if_neg (fun e => hgh e.symm)]; show rs + (y - rs) = y; omega
theorem at_seat {g h rs r f : Int} (hf : f = g ∨ f = h) (hgh : g ≠ h) (h0 : 0 ≤ r) (h1 : r < rs) : wheelAt (seat g rs r f) rs g h = (r, f) := by
  unfold wheelAt seat
  by_cases c : f = g
  · rw [if_pos c, if_pos (by omega), c]; congr 1; omega
  · have e : f = h := by rcases hf with q | q; exact absurd q c; exact q
    rw [if_neg c, if_neg (by omega), e]; congr 1; omega
theorem seat_range {g h rs r f : Int} (h0 : 0 ≤ r) (h1 : r < rs) : 0 ≤ seat g rs r f ∧ seat g rs r f < 2 * rs := by
  unfold seat; split <;> omega
theorem wheel_back {g h k rs r f : Int} (hf : f = g ∨ f = h) (hgh : g ≠ h) (h0 : 0 ≤ r) (h1 : r < rs) : wheelTo g h (-k) rs (wheelTo g h k rs r f).1 (wheelTo g h k rs r f).2 = (r, f) := by
  have e1 : wheelTo g h k rs r f = wheelAt ((seat g rs r f + k) % (2 * rs)) rs g h := rfl
  have e2 : ∀ r f, wheelTo g h (-k) rs r f = wheelAt ((seat g rs r f + -k) % (2 * rs)) rs g h := fun _ _ => rfl
  rw [e2, e1, seat_at hgh]
  have sr := seat_range (g := g) (h := h) (f := f) h0 h1
  have : ((seat g rs r f + k) % (2 * rs) + -k) % (2 * rs) = seat g rs r f := by
    rw [Int.emod_add_emod]
    rw [show seat g rs r f + k + -k = seat g rs r f by omega]
    exact Int.emod_eq_of_lt sr.1 sr.2
  rw [this]
  exact at_seat hf hgh h0 h1
theorem emod_back {r k rs : Int} (h0 : 0 ≤ r) (h1 : r < rs) : ((r - k) % rs - -k) % rs = r := by
  rw [show (r - k) % rs - -k = (r - k) % rs + k by omega, Int.emod_add_emod, show r - k + k = r by omega]
  exact Int.emod_eq_of_lt h0 h1
theorem num_range {fs rs r f : Int} (hr : 0 ≤ r ∧ r < rs) (hf : 0 ≤ f ∧ f < fs) : 0 ≤ r * fs + f ∧ r * fs + f < rs * fs := by
  have h1 : 0 ≤ r * fs := Int.mul_nonneg hr.1 (by omega)
  have h2 : (r + 1) * fs ≤ rs * fs := Int.mul_le_mul_of_nonneg_right (by omega) (by omega)
  rw [Int.add_mul, Int.one_mul] at h2
  omega
theorem ediv_of {x a b : Int} (hb : 0 ≤ b ∧ b < x) : (a * x + b) / x = a := by
  rw [Int.add_comm, Int.add_mul_ediv_right _ _ (by omega), Int.ediv_eq_zero_of_lt hb.1 hb.2]; omega
theorem emod_of {x a b : Int} (hb : 0 ≤ b ∧ b < x) : (a * x + b) % x = b := by
  rw [Int.add_comm, Int.add_mul_emod_self_right]
  exact Int.emod_eq_of_lt hb.1 hb.2
theorem mv_range {q : C} {fs rs r f : Int} (hq : q.ok fs) (hr : 0 ≤ r ∧ r < rs) (hf : 0 ≤ f ∧ f < fs) : onLine fs rs (mv q fs rs r f) := by
  have hrs : 0 < rs := by omega
  have em : ∀ x : Int, 0 ≤ x % rs ∧ x % rs < rs := fun x => ⟨Int.emod_nonneg _ (by omega), Int.emod_lt_of_pos _ hrs⟩
  have nr := num_range hr hf
  have nr2 := num_range (fs := rs) (rs := fs) hf hr
  cases q with
  | all k => exact ⟨em _, hf⟩
  | about => exact ⟨by show 0 ≤ rs - 1 - r ∧ rs - 1 - r < rs; omega, by show 0 ≤ fs - 1 - f ∧ fs - 1 - f < fs; omega⟩
  | up g k =>
    by_cases c : f ∈ (C.up g k).named
    · rw [mv_up c]; exact ⟨em _, hf⟩
    · rw [mv_out c (List.cons_ne_nil _ _)]; exact ⟨hr, hf⟩
  | swap g h =>
    by_cases c : f ∈ (C.swap g h).named
    · rw [mv_swap c]
      have c' : f = g ∨ f = h := by simpa [C.named] using c
      obtain ⟨a1, a2, a3⟩ : isFile fs g ∧ isFile fs h ∧ g ≠ h := hq
      unfold isFile at a1 a2
      exact ⟨hr, by show 0 ≤ g + h - f ∧ g + h - f < fs; omega⟩
    · rw [mv_out c (List.cons_ne_nil _ _)]; exact ⟨hr, hf⟩
  | front g h =>
    by_cases c : f ∈ (C.front g h).named
    · by_cases c0 : r = 0
      · rw [mv_front0 c c0]
        have c' : f = g ∨ f = h := by simpa [C.named] using c
        obtain ⟨a1, a2, a3⟩ : isFile fs g ∧ isFile fs h ∧ g ≠ h := hq
        unfold isFile at a1 a2
        exact ⟨hr, by show 0 ≤ g + h - f ∧ g + h - f < fs; omega⟩
      · rw [mv_front1 c c0]; exact ⟨hr, hf⟩
    · rw [mv_out c (List.cons_ne_nil _ _)]; exact ⟨hr, hf⟩
  | wheel g h k =>
    by_cases c : f ∈ (C.wheel g h k).named
    · rw [mv_wheel c]
      obtain ⟨a1, a2, a3, _⟩ : isFile fs g ∧ isFile fs h ∧ g ≠ h ∧ k ≠ 0 := hq
      obtain ⟨b1, b2, b3⟩ := wheel_range (g := g) (h := h) (k := k) (r := r) (f := f) hrs
      refine ⟨⟨b1, b2⟩, ?_⟩
      rcases b3 with e | e
      · rw [e]; exact a1
      · rw [e]; exact a2
    · rw [mv_out c (List.cons_ne_nil _ _)]; exact ⟨hr, hf⟩
  | halve =>
    refine ⟨em _, ?_⟩
    show 0 ≤ (r * fs + f) / rs ∧ (r * fs + f) / rs < fs
    exact ⟨Int.ediv_nonneg nr.1 (by omega), Int.ediv_lt_of_lt_mul hrs (by rw [Int.mul_comm fs rs]; exact nr.2)⟩
  | pair =>
    have hf0 : 0 < fs := by omega
    refine ⟨?_, ⟨Int.emod_nonneg _ (by omega), Int.emod_lt_of_pos _ hf0⟩⟩
    show 0 ≤ (f * rs + r) / fs ∧ (f * rs + r) / fs < rs
    exact ⟨Int.ediv_nonneg nr2.1 (by omega), Int.ediv_lt_of_lt_mul hf0 (by rw [Int.mul_comm rs fs]; exact nr2.2)⟩
  | others =>
    refine ⟨?_, hf⟩
    show 0 ≤ r / 2 + r % 2 * ((rs + 1) / 2) ∧ r / 2 + r % 2 * ((rs + 1) / 2) < rs
    rcases (show r % 2 = 0 ∨ r % 2 = 1 by omega) with e | e
    · rw [e]; omega
    · rw [e]; omega
  | fill =>
    show onLine fs rs (if r < (rs + 1) / 2 then (2 * r, f) else (2 * (r - (rs + 1) / 2) + 1, f))
    by_cases c : r < (rs + 1) / 2
    · rw [if_pos c]; exact ⟨by show 0 ≤ 2 * r ∧ 2 * r < rs; omega, hf⟩
    · rw [if_neg c]; exact ⟨by show 0 ≤ 2 * (r - (rs + 1) / 2) + 1 ∧ 2 * (r - (rs + 1) / 2) + 1 < rs; omega, hf⟩
theorem mv_back {q : C} {fs rs r f : Int} (hq : q.ok fs) (hr : 0 ≤ r ∧ r < rs) (hf : 0 ≤ f ∧ f < fs) : mv q.turned fs rs (mv q fs rs r f).1 (mv q fs rs r f).2 = (r, f) := by
  have hrs : 0 < rs := by omega
  have nr := num_range hr hf
  have nr2 := num_range (fs := rs) (rs := fs) hf hr
  cases q with
  | all k => show (((r - k) % rs - -k) % rs, f) = (r, f); rw [emod_back hr.1 hr.2]
  | about => show (rs - 1 - (rs - 1 - r), fs - 1 - (fs - 1 - f)) = (r, f); congr 1 <;> omega
  | up g k =>
    by_cases c : f ∈ (C.up g k).named
    · rw [mv_up c]
      show mv (.up g (-k)) fs rs ((r - k) % rs) f = _
      rw [mv_up (show f ∈ (C.up g (-k)).named from c), emod_back hr.1 hr.2]
    · rw [mv_out c (List.cons_ne_nil _ _)]
      exact mv_out (q := .up g (-k)) c (List.cons_ne_nil _ _)
  | swap g h =>
    by_cases c : f ∈ (C.swap g h).named
    · rw [mv_swap c]
      have c' : f = g ∨ f = h := by simpa [C.named] using c
      show mv (.swap g h) fs rs r (g + h - f) = _
      rw [mv_swap (by simp [C.named]; omega)]
      congr 1; omega
    · rw [mv_out c (List.cons_ne_nil _ _)]
      exact mv_out (q := .swap g h) c (List.cons_ne_nil _ _)
  | front g h =>
    by_cases c : f ∈ (C.front g h).named
    · by_cases c0 : r = 0
      · rw [mv_front0 c c0]
        have c' : f = g ∨ f = h := by simpa [C.named] using c
        show mv (.front g h) fs rs r (g + h - f) = _
        rw [mv_front0 (by simp [C.named]; omega) c0]
        congr 1; omega
      · rw [mv_front1 c c0]
        exact mv_front1 c c0
    · rw [mv_out c (List.cons_ne_nil _ _)]
      exact mv_out (q := .front g h) c (List.cons_ne_nil _ _)
  | wheel g h k =>
    obtain ⟨a1, a2, a3, _⟩ : isFile fs g ∧ isFile fs h ∧ g ≠ h ∧ k ≠ 0 := hq
    by_cases c : f ∈ (C.wheel g h k).named
    · rw [mv_wheel c]
      have c' : f = g ∨ f = h := by simpa [C.named] using c
      obtain ⟨b1, b2, b3⟩ := wheel_range (g := g) (h := h) (k := k) (r := r) (f := f) hrs
      show mv (.wheel g h (-k)) fs rs (wheelTo g h k rs r f).1 (wheelTo g h k rs r f).2 = _
      rw [mv_wheel (by simp only [C.named, List.mem_cons, List.not_mem_nil, or_false]; exact b3)]
      exact wheel_back c' a3 hr.1 hr.2
    · rw [mv_out c (List.cons_ne_nil _ _)]
      exact mv_out (q := .wheel g h (-k)) c (List.cons_ne_nil _ _)
  | halve =>
    show (((r * fs + f) / rs * rs + (r * fs + f) % rs) / fs, ((r * fs + f) / rs * rs + (r * fs + f) % rs) % fs) = (r, f)
    rw [Int.ediv_mul_add_emod, ediv_of hf, emod_of hf]
  | pair =>
    show (((f * rs + r) / fs * fs + (f * rs + r) % fs) % rs, ((f * rs + r) / fs * fs + (f * rs + r) % fs) / rs) = (r, f)
    rw [Int.ediv_mul_add_emod, ediv_of hr, emod_of hr]
  | others =>
    show mvOpen 3 fs rs (r / 2 + r % 2 * ((rs + 1) / 2)) f = (r, f)
    show (if r / 2 + r % 2 * ((rs + 1) / 2) < (rs + 1) / 2 then (2 * (r / 2 + r % 2 * ((rs + 1) / 2)), f) else (2 * (r / 2 + r % 2 * ((rs + 1) / 2) - (rs + 1) / 2) + 1, f)) = (r, f)
    rcases (show r % 2 = 0 ∨ r % 2 = 1 by omega) with e | e
    · rw [e, if_pos (by omega)]; congr 1; omega
    · rw [e, if_neg (by omega)]; congr 1; omega
  | fill =>
    show mvOpen 2 fs rs (if r < (rs + 1) / 2 then (2 * r, f) else (2 * (r - (rs + 1) / 2) + 1, f)).1 (if r < (rs + 1) / 2 then (2 * r, f) else (2 * (r - (rs + 1) / 2) + 1, f)).2 = (r, f)
    by_cases c : r < (rs + 1) / 2
    · rw [if_pos c]
      show (2 * r / 2 + 2 * r % 2 * ((rs + 1) / 2), f) = (r, f)
      rw [show 2 * r % 2 = 0 by omega]; congr 1; omega
    · rw [if_neg c]
      show ((2 * (r - (rs + 1) / 2) + 1) / 2 + (2 * (r - (rs + 1) / 2) + 1) % 2 * ((rs + 1) / 2), f) = (r, f)
      rw [show (2 * (r - (rs + 1) / 2) + 1) % 2 = 1 by omega]; congr 1; omega
/-! the other side -/
end My

set_option Elab.async false
set_option linter.all false
set_option maxRecDepth 100000
set_option maxHeartbeats 8000000
namespace My
open PySem PySem.Spec PyProof.Rows L2 Sx
local macro_rules | `(tactic| walk_at "nb") => `(tactic| first | exact NB.tup | exact NB.ints | exact NB.len (of_decide_eq_true rfl) | exact NB.at0b rfl | exact NB.at3b rfl | exact NB.ins | exact NB.own | exact NB.frz | exact NB.refs (by assumption) | assumption)
local macro_rules | `(tactic| walk_at "ne") => `(tactic| first | assumption | exact Ne.symm (by assumption) | exact ne_of_none (by assumption) (by assumption) | exact Ne.symm (ne_of_none (by assumption) (by assumption)))
local macro_rules | `(tactic| walk_at "hk") => `(tactic| first
  | assumption
  | exact upd_same
  | (refine' (upd_ne ?hkne).trans ?hkq; (case hkne => walk_at "ne"); (case hkq => walk_at "hk"))
  | (refine' Ex.kp (by assumption) _ _ ?hkq ?hkn; (case hkq => walk_at "hk"); (case hkn => walk_at "nb")))
local macro_rules | `(tactic| walk_at "rd1") => `(tactic| first
  | ((with_reducible refine' x_var ?hx ?_); (case hx => exact rfl))
  | with_reducible refine x_c ?_
  | with_reducible refine x_op ?_
  | with_reducible refine x_un ?_
  | with_reducible refine x_I0 ?_
  | with_reducible refine x_U ?_
  | ((with_reducible refine x_I ?hc ?_); (case hc => first | exact (by decide : (0 : Int) < _) | (show (0 : Int) < _; omega) | (show CMul _ _; first | exact .inl ⟨by omega, by omega⟩ | exact .inr ⟨by omega, by omega⟩) | (show CDiv _ _; exact ⟨by omega, by omega⟩) | (show CDivW _ _; exact wide_div (b := 200) (by omega) (by assumption) (by decide) (by decide)) | (show CDivW _ _; exact wide_div (b := 31) (by omega) (by omega) (by decide) (by decide))))
  | with_reducible refine x_EqI ?_
  | with_reducible refine x_NeI ?_
  | ((with_reducible refine x_EqSt ?h ?_); (case h => decide +kernel))
  | ((with_reducible refine x_EqSf ?h ?_); (case h => decide +kernel))
  | ((with_reducible refine x_NeSt ?h ?_); (case h => decide +kernel))
  | ((with_reducible refine x_NeSf ?h ?_); (case h => decide +kernel))
  | with_reducible refine x_EqS ?_
  | with_reducible refine x_NeS ?_
  | ((with_reducible refine' x_ixL ?hq ?hi ?_); (case hq => walk_at "hk"); (case hi => first | exact rfl | assumption))
  | ((with_reducible refine' x_ixT ?hq ?hi ?_); (case hq => walk_at "hk"); (case hi => first | exact rfl | assumption))
  | with_reducible refine x_chain ?_
  | with_reducible refine x_tup ?_
  | with_reducible refine x_lst ?_
  | ((with_reducible refine x_lenNew ?hl ?_); (case hl => exact Nat.le_of_ble_eq_true rfl); intro _ _ _ _ _)
  | ((with_reducible refine x_new ?_); intro _ _ _ _ _)
  | with_reducible refine x_sl ?_
  | with_reducible refine x_noPart ?_
  | with_reducible refine x_part ?_
  | with_reducible refine x_ex_int ?_
  | with_reducible refine x_ex_bl ?_
  | with_reducible refine x_ex_2 ?_
  | with_reducible refine x_test ?_
  | with_reducible refine x_B ?_
  | with_reducible refine x_and ?_
  | with_reducible refine x_or ?_
  | with_reducible refine x_not ?_
  | with_reducible refine x_andV ?_
  | with_reducible refine x_orV ?_
  | with_reducible refine x_notV ?_
  | with_reducible refine x_ifE ?_
  | with_reducible refine x_iteT ?_
  | with_reducible refine x_iteF ?_
  | ((with_reducible refine x_iteD ?_ ?_) <;> intro _)
  | ((with_reducible refine x_iteN ?_ ?_) <;> intro _)
  | with_reducible refine x_if ?_
  | with_reducible refine x_seq ?_
  | with_reducible refine x_next ?_
  | with_reducible refine x_asg ?_
  | with_reducible refine x_gName ?_
  | ((with_reducible refine' x_gTup ?hq ?hn ?_); (case hq => walk_at "hk"); (case hn => exact rfl))
  | with_reducible refine x_gCons ?_
  | with_reducible refine x_gNil ?_
  | ((with_reducible refine' x_gConsE ?h ?_); (case h => exact rfl))
  | ((with_reducible refine x_gNilE ?h ?_); (case h => exact rfl))
  | with_reducible refine x_ret ?_
  | with_reducible refine x_drop ?_
  | with_reducible refine x_par ?_
  | ((with_reducible refine' x_aug ?hx ?_); (case hx => exact rfl))
  | with_reducible refine x_ipI ?_
  | with_reducible refine x_augS ?_
  | with_reducible refine x_gSub ?_
  | ((with_reducible refine' x_setL ?hq ?hi ?_); (case hq => walk_at "hk"); (case hi => first | exact rfl | assumption))
  | with_reducible refine x_cons ?_
  | with_reducible refine x_nil ?_
  | with_reducible refine x_CB ?_
  | with_reducible refine x_abs ?_
  | with_reducible refine x_intI ?_
  | with_reducible refine x_intB ?_
  | ((with_reducible refine' x_lenL ?hq ?_); (case hq => walk_at "hk"))
  | ((with_reducible refine' x_lenT ?hq ?_); (case hq => walk_at "hk"))
  | ((with_reducible refine x_iteTe ?h ?_); (case h => exact rfl))
  | ((with_reducible refine x_iteFe ?h ?_); (case h => exact rfl))
  | walk_at "use"
  | with_reducible refine x_callS ?_
  | ((with_reducible refine x_lc ?_))
  | ((with_reducible refine x_for ?_))
  | ((with_reducible refine x_iR1 ?_))
  | ((with_reducible refine x_iL ?_))
  | ((with_reducible refine x_iZ ?_))
  | ((with_reducible refine x_yes ?_))
  | ((with_reducible refine' x_NIDt ?hq ?_); (case hq => assumption))
  | ((with_reducible refine' x_NIDf ?hq ?_); (case hq => assumption))
  | ((with_reducible refine' x_IIDf ?hq ?_); (case hq => assumption))
  | ((with_reducible refine' x_IIDt ?hq ?_); (case hq => assumption))
  | ((with_reducible refine' x_ixDs ?hd ?hq ?_); (case hd => assumption); (case hq => assumption))
  | ((with_reducible refine x_InSt ?h ?_); (case h => decide +kernel))
  | ((with_reducible refine x_InSf ?h ?_); (case h => decide +kernel))
  | ((with_reducible refine' x_notInI ?hq ?_); (case hq => walk_at "hk"))
  | ((with_reducible refine' x_inTt ?hq ?hv ?ha ?he ?_); (case hq => walk_at "hk"); (case hv => exact rfl); (case ha => exact rfl); (case he => decide +kernel))
  | ((with_reducible refine' x_inTf ?hq ?hv ?ha ?he ?_); (case hq => walk_at "hk"); (case hv => exact rfl); (case ha => exact rfl); (case he => decide +kernel))
  | ((with_reducible refine' x_slT ?hq ?hw ?_); (case hq => walk_at "hk"); (case hw => with_unfolding_all exact of_decide_eq_true rfl))
  | ((with_reducible refine' x_slL ?hq ?_); (case hq => walk_at "hk"))
  | ((with_reducible refine' x_catT ?hq ?hr ?n1 ?n2 ?hl ?_); (case hq => walk_at "hk"); (case hr => walk_at "hk"); (case n1 => exact List.cons_ne_nil _ _); (case n2 => exact List.cons_ne_nil _ _); (case hl => exact Nat.le_of_ble_eq_true rfl))
  | ((with_reducible refine x_bm ?_))
  | ((with_reducible refine x_lstRg ?_))
  | ((with_reducible refine x_rg1 ?_))
  | ((with_reducible refine And.intro ?h ?_); (case h => exact tyL (by assumption)))
  | dsimp only)
local macro_rules | `(tactic| walk_at "use") => `(tactic| fail)
local macro_rules | `(tactic| walk_at "rd") => `(tactic| repeat' (walk_at "rd1"))
local macro_rules | `(tactic| walk_at "ex") => `(tactic| first | exact Ex.refl _ | assumption | (refine' Ex.trans ?he (by assumption); (case he => walk_at "ex")))
local macro_rules | `(tactic| walk_at "rd1") => `(tactic| first
  | ((with_reducible refine x_iteDf ?h ?_); (case h => exact rfl))
  | ((with_reducible refine x_iteDt ?h ?_); (case h => exact rfl))
  | ((with_reducible refine x_iteNf ?h ?_); (case h => exact rfl))
  | ((with_reducible refine x_iteNt ?h ?_); (case h => exact rfl))
  | ((with_reducible refine x_isiI (r := true) ?h ?_); (case h => decide +kernel))
  | ((with_reducible refine x_isiI (r := false) ?h ?_); (case h => decide +kernel))
  | ((with_reducible refine x_isiS (r := true) ?h ?_); (case h => decide +kernel))
  | ((with_reducible refine x_isiS (r := false) ?h ?_); (case h => decide +kernel))
  | ((with_reducible refine x_isiB (r := true) ?h ?_); (case h => decide +kernel))
  | ((with_reducible refine x_isiB (r := false) ?h ?_); (case h => decide +kernel))
  | ((with_reducible refine' x_isiT (r := true) ?hp ?h ?_); (case hp => walk_at "hk"); (case h => decide +kernel))
  | ((with_reducible refine' x_isiT (r := false) ?hp ?h ?_); (case hp => walk_at "hk"); (case h => decide +kernel))
  | ((with_reducible refine' x_isiL (r := true) ?hp ?h ?_); (case hp => walk_at "hk"); (case h => decide +kernel))
  | ((with_reducible refine' x_isiL (r := false) ?hp ?h ?_); (case hp => walk_at "hk"); (case h => decide +kernel))
  | ((with_reducible refine' x_isi2L ?hp ?hl ?_); (case hp => walk_at "hk"); (case hl => walk_at "hk"))
  | ((with_reducible refine' x_isi2T ?hp ?hl ?_); (case hp => walk_at "hk"); (case hl => walk_at "hk"))
  | ((with_reducible refine' x_tupOfL ?hq ?_); (case hq => walk_at "hk"))
  | ((with_reducible refine' x_tupOfT ?hq ?_); (case hq => walk_at "hk"))
  | ((with_reducible refine x_lenS ?h ?_); (case h => exact Nat.le_of_ble_eq_true rfl))
  | ((with_reducible refine' x_all ?hq ?_); (case hq => walk_at "hk"))
  | with_reducible refine x_lenSet ?_)

section
variable {q : C} {qs us : List C} {fs rs r f : Int}
def led (qs : List C) (fs rs : Int) (x : Int × Int) : Int × Int := qs.foldl (fun x q => mv q fs rs x.1 x.2) x
theorem led_range {x : Int × Int} (h : ∀ q ∈ qs, q.ok fs) (hx : onLine fs rs x) : onLine fs rs (led qs fs rs x) := by
  induction qs generalizing x with
  | nil => exact hx
  | cons q qs ih => exact ih (fun z hz => h z (.tail _ hz)) (mv_range (h q (.head _)) hx.1 hx.2)
theorem led_snoc {x : Int × Int} : led (qs ++ [q]) fs rs x = mv q fs rs (led qs fs rs x).1 (led qs fs rs x).2 := by
  unfold led
  rw [List.foldl_append]
  rfl
end
end My

set_option Elab.async false
set_option linter.all false
set_option maxRecDepth 100000
set_option maxHeartbeats 8000000
namespace My
open PySem PySem.Spec PyProof.Rows L2 Sx
local macro_rules | `(tactic| walk_at "nb") => `(tactic| first | exact NB.tup | exact NB.ints | exact NB.len (of_decide_eq_true rfl) | exact NB.at0b rfl | exact NB.at3b rfl | exact NB.ins | exact NB.own | exact NB.frz | exact NB.refs (by assumption) | assumption)
local macro_rules | `(tactic| walk_at "ne") => `(tactic| first | assumption | exact Ne.symm (by assumption) | exact ne_of_none (by assumption) (by assumption) | exact Ne.symm (ne_of_none (by assumption) (by assumption)))
local macro_rules | `(tactic| walk_at "hk") => `(tactic| first
  | assumption
  | exact upd_same
  | (refine' (upd_ne ?hkne).trans ?hkq; (case hkne => walk_at "ne"); (case hkq => walk_at "hk"))
  | (refine' Ex.kp (by assumption) _ _ ?hkq ?hkn; (case hkq => walk_at "hk"); (case hkn => walk_at "nb")))
local macro_rules | `(tactic| walk_at "rd1") => `(tactic| first
  | ((with_reducible refine' x_var ?hx ?_); (case hx => exact rfl))
  | with_reducible refine x_c ?_
  | with_reducible refine x_op ?_
  | with_reducible refine x_un ?_
  | with_reducible refine x_I0 ?_
  | with_reducible refine x_U ?_
  | ((with_reducible refine x_I ?hc ?_); (case hc => first | exact (by decide : (0 : Int) < _) | (show (0 : Int) < _; omega) | (show CMul _ _; first | exact .inl ⟨by omega, by omega⟩ | exact .inr ⟨by omega, by omega⟩) | (show CDiv _ _; exact ⟨by omega, by omega⟩) | (show CDivW _ _; exact wide_div (b := 200) (by omega) (by assumption) (by decide) (by decide)) | (show CDivW _ _; exact wide_div (b := 31) (by omega) (by omega) (by decide) (by decide))))
  | with_reducible refine x_EqI ?_
  | with_reducible refine x_NeI ?_
  | ((with_reducible refine x_EqSt ?h ?_); (case h => decide +kernel))
  | ((with_reducible refine x_EqSf ?h ?_); (case h => decide +kernel))
  | ((with_reducible refine x_NeSt ?h ?_); (case h => decide +kernel))
  | ((with_reducible refine x_NeSf ?h ?_); (case h => decide +kernel))
  | with_reducible refine x_EqS ?_
  | with_reducible refine x_NeS ?_
  | ((with_reducible refine' x_ixL ?hq ?hi ?_); (case hq => walk_at "hk"); (case hi => first | exact rfl | assumption))
  | ((with_reducible refine' x_ixT ?hq ?hi ?_); (case hq => walk_at "hk"); (case hi => first | exact rfl | assumption))
  | with_reducible refine x_chain ?_
  | with_reducible refine x_tup ?_
  | with_reducible refine x_lst ?_
  | ((with_reducible refine x_lenNew ?hl ?_); (case hl => exact Nat.le_of_ble_eq_true rfl); intro _ _ _ _ _)
  | ((with_reducible refine x_new ?_); intro _ _ _ _ _)
  | with_reducible refine x_sl ?_
  | with_reducible refine x_noPart ?_
  | with_reducible refine x_part ?_
  | with_reducible refine x_ex_int ?_
  | with_reducible refine x_ex_bl ?_
  | with_reducible refine x_ex_2 ?_
  | with_reducible refine x_test ?_
  | with_reducible refine x_B ?_
  | with_reducible refine x_and ?_
  | with_reducible refine x_or ?_
  | with_reducible refine x_not ?_
  | with_reducible refine x_andV ?_
  | with_reducible refine x_orV ?_
  | with_reducible refine x_notV ?_
  | with_reducible refine x_ifE ?_
  | with_reducible refine x_iteT ?_
  | with_reducible refine x_iteF ?_
  | ((with_reducible refine x_iteD ?_ ?_) <;> intro _)
  | ((with_reducible refine x_iteN ?_ ?_) <;> intro _)
  | with_reducible refine x_if ?_
  | with_reducible refine x_seq ?_
  | with_reducible refine x_next ?_
  | with_reducible refine x_asg ?_
  | with_reducible refine x_gName ?_
  | ((with_reducible refine' x_gTup ?hq ?hn ?_); (case hq => walk_at "hk"); (case hn => exact rfl))
  | with_reducible refine x_gCons ?_
  | with_reducible refine x_gNil ?_
  | ((with_reducible refine' x_gConsE ?h ?_); (case h => exact rfl))
  | ((with_reducible refine x_gNilE ?h ?_); (case h => exact rfl))
  | with_reducible refine x_ret ?_
  | with_reducible refine x_drop ?_
  | with_reducible refine x_par ?_
  | ((with_reducible refine' x_aug ?hx ?_); (case hx => exact rfl))
  | with_reducible refine x_ipI ?_
  | with_reducible refine x_augS ?_
  | with_reducible refine x_gSub ?_
  | ((with_reducible refine' x_setL ?hq ?hi ?_); (case hq => walk_at "hk"); (case hi => first | exact rfl | assumption))
  | with_reducible refine x_cons ?_
  | with_reducible refine x_nil ?_
  | with_reducible refine x_CB ?_
  | with_reducible refine x_abs ?_
  | with_reducible refine x_intI ?_
  | with_reducible refine x_intB ?_
  | ((with_reducible refine' x_lenL ?hq ?_); (case hq => walk_at "hk"))
  | ((with_reducible refine' x_lenT ?hq ?_); (case hq => walk_at "hk"))
  | ((with_reducible refine x_iteTe ?h ?_); (case h => exact rfl))
  | ((with_reducible refine x_iteFe ?h ?_); (case h => exact rfl))
  | walk_at "use"
  | with_reducible refine x_callS ?_
  | ((with_reducible refine x_lc ?_))
  | ((with_reducible refine x_for ?_))
  | ((with_reducible refine x_iR1 ?_))
  | ((with_reducible refine x_iL ?_))
  | ((with_reducible refine x_iZ ?_))
  | ((with_reducible refine x_yes ?_))
  | ((with_reducible refine' x_NIDt ?hq ?_); (case hq => assumption))
  | ((with_reducible refine' x_NIDf ?hq ?_); (case hq => assumption))
  | ((with_reducible refine' x_IIDf ?hq ?_); (case hq => assumption))
  | ((with_reducible refine' x_IIDt ?hq ?_); (case hq => assumption))
  | ((with_reducible refine' x_ixDs ?hd ?hq ?_); (case hd => assumption); (case hq => assumption))
  | ((with_reducible refine x_InSt ?h ?_); (case h => decide +kernel))
  | ((with_reducible refine x_InSf ?h ?_); (case h => decide +kernel))
  | ((with_reducible refine' x_notInI ?hq ?_); (case hq => walk_at "hk"))
  | ((with_reducible refine' x_inTt ?hq ?hv ?ha ?he ?_); (case hq => walk_at "hk"); (case hv => exact rfl); (case ha => exact rfl); (case he => decide +kernel))
  | ((with_reducible refine' x_inTf ?hq ?hv ?ha ?he ?_); (case hq => walk_at "hk"); (case hv => exact rfl); (case ha => exact rfl); (case he => decide +kernel))
  | ((with_reducible refine' x_slT ?hq ?hw ?_); (case hq => walk_at "hk"); (case hw => with_unfolding_all exact of_decide_eq_true rfl))
  | ((with_reducible refine' x_slL ?hq ?_); (case hq => walk_at "hk"))
  | ((with_reducible refine' x_catT ?hq ?hr ?n1 ?n2 ?hl ?_); (case hq => walk_at "hk"); (case hr => walk_at "hk"); (case n1 => exact List.cons_ne_nil _ _); (case n2 => exact List.cons_ne_nil _ _); (case hl => exact Nat.le_of_ble_eq_true rfl))
  | ((with_reducible refine x_bm ?_))
  | ((with_reducible refine x_lstRg ?_))
  | ((with_reducible refine x_rg1 ?_))
  | ((with_reducible refine And.intro ?h ?_); (case h => exact tyL (by assumption)))
  | dsimp only)
local macro_rules | `(tactic| walk_at "use") => `(tactic| fail)
local macro_rules | `(tactic| walk_at "rd") => `(tactic| repeat' (walk_at "rd1"))
local macro_rules | `(tactic| walk_at "ex") => `(tactic| first | exact Ex.refl _ | assumption | (refine' Ex.trans ?he (by assumption); (case he => walk_at "ex")))
local macro_rules | `(tactic| walk_at "rd1") => `(tactic| first
  | ((with_reducible refine x_iteDf ?h ?_); (case h => exact rfl))
  | ((with_reducible refine x_iteDt ?h ?_); (case h => exact rfl))
  | ((with_reducible refine x_iteNf ?h ?_); (case h => exact rfl))
  | ((with_reducible refine x_iteNt ?h ?_); (case h => exact rfl))
  | ((with_reducible refine x_isiI (r := true) ?h ?_); (case h => decide +kernel))
  | ((with_reducible refine x_isiI (r := false) ?h ?_); (case h => decide +kernel))
  | ((with_reducible refine x_isiS (r := true) ?h ?_); (case h => decide +kernel))
  | ((with_reducible refine x_isiS (r := false) ?h ?_); (case h => decide +kernel))
  | ((with_reducible refine x_isiB (r := true) ?h ?_); (case h => decide +kernel))
  | ((with_reducible refine x_isiB (r := false) ?h ?_); (case h => decide +kernel))
  | ((with_reducible refine' x_isiT (r := true) ?hp ?h ?_); (case hp => walk_at "hk"); (case h => decide +kernel))
  | ((with_reducible refine' x_isiT (r := false) ?hp ?h ?_); (case hp => walk_at "hk"); (case h => decide +kernel))
  | ((with_reducible refine' x_isiL (r := true) ?hp ?h ?_); (case hp => walk_at "hk"); (case h => decide +kernel))
  | ((with_reducible refine' x_isiL (r := false) ?hp ?h ?_); (case hp => walk_at "hk"); (case h => decide +kernel))
  | ((with_reducible refine' x_isi2L ?hp ?hl ?_); (case hp => walk_at "hk"); (case hl => walk_at "hk"))
  | ((with_reducible refine' x_isi2T ?hp ?hl ?_); (case hp => walk_at "hk"); (case hl => walk_at "hk"))
  | ((with_reducible refine' x_tupOfL ?hq ?_); (case hq => walk_at "hk"))
  | ((with_reducible refine' x_tupOfT ?hq ?_); (case hq => walk_at "hk"))
  | ((with_reducible refine x_lenS ?h ?_); (case h => exact Nat.le_of_ble_eq_true rfl))
  | ((with_reducible refine' x_all ?hq ?_); (case hq => walk_at "hk"))
  | with_reducible refine x_lenSet ?_)
local macro_rules | `(tactic| walk_at "rd1") => `(tactic| first
  | with_reducible refine Er.x_iR2 ?_
  | with_reducible refine Er.x_iEn ?_
  | with_reducible refine Er.x_cont ?_
  | ((with_reducible refine Er.x_isBt ?h ?_); (case h => exact rfl))
  | ((with_reducible refine Er.x_isBf ?h ?_); (case h => exact rfl))
  | ((with_reducible refine Er.x_isNBt ?h ?_); (case h => exact rfl))
  | ((with_reducible refine Er.x_isNBf ?h ?_); (case h => exact rfl))
  | with_reducible refine Er.x_isB ?_
  | with_reducible refine Er.x_isNB ?_)

open Cl
local macro_rules | `(tactic| walk_at "nb") => `(tactic| first | exact NB.ints | assumption | (refine Ow.Refs.nb ?_; assumption))
local macro_rules | `(tactic| walk_at "rd1") => `(tactic| first
  | with_reducible refine Er.x_stepL ?_
  | ((with_reducible refine' Er.x_stepK ?h ?h0 ?_); (case h => walk_at "hk"); (case h0 => decide); intro _ _ _ _ _)
  | with_reducible refine Er.x_gStep ?_
  | ((with_reducible refine' x_cat ?h ?h' ?l ?_); (case h => walk_at "hk"); (case h' => walk_at "hk"); (case l => assumption))
  | ((with_reducible refine' x_listOfL ?h ?_); (case h => walk_at "hk")))
section
variable {P : Program} {w : World} {K : PySem.W.Frag} {mg : Str → Option Value} {base : Heap} {a : Ad} {H H1 : Hp} {Q : VK} {E : XK} {p b c t s dx : Addr} {fl gl : Int} {xs ps : List V} {qs us : List C} {n m : Nat} {g : Int → Int → Int} {ls : List (List Int)}
open Er
/-- lists of ints, one behind another -/
inductive Cols (H : Hp) : List V → List (List Int) → Prop
  | nil : Cols H [] []
  | cons {p : Addr} {l : List Int} {ps : List V} {ls : List (List Int)} (h : H p = some (.lst (l.map V.int))) (t : Cols H ps ls) : Cols H (.ref p :: ps) (l :: ls)
theorem Cols.ex (e : Ex H H1) (h : Cols H ps ls) : Cols H1 ps ls := by
  induction h with
  | nil => exact .nil
  | cons h _ ih => exact .cons (e.kp _ _ h NB.ints) ih
theorem Cols.len (h : Cols H ps ls) : ps.length = ls.length := by
  induction h with
  | nil => rfl
  | cons _ _ ih => rw [List.length_cons, List.length_cons, ih]
theorem Cols.refs (h : Cols H ps ls) : Ow.Refs ps := by
  induction h with
  | nil => exact Ow.Refs.nil
  | cons _ _ ih => exact Ow.Refs.cons ih
theorem Cols.nb (h : Cols H ps ls) : NB (.lst ps) := h.refs.nb
theorem Cols.get (h : Cols H ps ls) : ∀ {i : Nat} {l : List Int}, ls[i]? = some l → ∃ p, ps[i]? = some (.ref p) ∧ H p = some (.lst (l.map V.int)) := by
  induction h with
  | nil => intro i l e; simp at e
  | cons h _ ih =>
    intro i l e
    cases i with
    | zero => exact ⟨_, rfl, by rw [h, show _ = l from Option.some.inj e]⟩
    | succ i => exact ih (by simpa using e)
theorem Cols.getV (h : Cols H ps ls) : ∀ {i : Nat} {v : V}, ps[i]? = some v → ∃ p l, v = .ref p ∧ ls[i]? = some l ∧ H p = some (.lst (l.map V.int)) := by
  induction h with
  | nil => intro i l e; simp at e
  | cons h _ ih =>
    intro i v e
    cases i with
    | zero => exact ⟨_, _, by simpa using e.symm, rfl, h⟩
    | succ i => exact ih (by simpa using e)
theorem Cols.set {l : List Int} (h : Cols H ps ls) (hp : H p = some (.lst (l.map V.int))) : ∀ i, Cols H (ps.set i (.ref p)) (ls.set i l) := by
  induction h with
  | nil => intro i; exact .nil
  | cons h t ih =>
    intro i
    cases i with
    | zero => exact .cons hp t
    | succ i => exact .cons h (ih i)
theorem Cols.app {qs : List V} {ks : List (List Int)} (h : Cols H ps ls) (h2 : Cols H qs ks) : Cols H (ps ++ qs) (ls ++ ks) := by
  induction h with
  | nil => exact h2
  | cons h _ ih => exact .cons h ih
theorem Cols.one {l : List Int} (h : Cols H ps ls) (hp : H p = some (.lst (l.map V.int))) : Cols H (ps ++ [.ref p]) (ls ++ [l]) := h.app (.cons hp .nil)
theorem Cols.rev (h : Cols H ps ls) : Cols H ps.reverse ls.reverse := by
  induction h with
  | nil => exact .nil
  | cons h _ ih => rw [List.reverse_cons, List.reverse_cons]; exact ih.one h
/-- columns that stand -/
def ColsAt (H : Hp) (a : Addr) (ls : List (List Int)) : Prop := ∃ ps, H a = some (.lst ps) ∧ Cols H ps ls
theorem ColsAt.ex (e : Ex H H1) (h : ColsAt H b ls) : ColsAt H1 b ls := by
  obtain ⟨ps, h1, h2⟩ := h
  exact ⟨ps, e.kp _ _ h1 h2.nb, h2.ex e⟩
/-- how large a line may be -/
def Sz (n m : Nat) : Prop := (n = 2 ∨ n = 3) ∧ 0 < m ∧ m ≤ 100000
def sp_beh (W : C → Prop) : Sp := fun vs H Q _ => ∃ (b p : Addr) (q : C) (n m : Nat) (g : Int → Int → Int), vs = [.ref b, .ref p] ∧ H p = some (.tup q.vals) ∧ W q ∧ q.ok n ∧ Sz n m ∧ ColsAt H b (tab n m g) ∧ ∀ t H1, Ex H H1 → ColsAt H1 t (tab n m (mvg q n m g)) → Q (.ref t) H1
theorem u_beh {W : C → Prop} {q : C} (hp : H p = some (.tup q.vals)) (hw : W q) (ho : q.ok n) (hz : Sz n m) (hc : ColsAt H b (tab n m g)) (k : ∀ t H1, Ex H H1 → ColsAt H1 t (tab n m (mvg q n m g)) → Q (.ref t) H1) : sp_beh W [.ref b, .ref p] H Q E := ⟨b, p, q, n, m, g, rfl, hp, hw, ho, hz, hc, k⟩
theorem sz_line {k : Nat} (h : k ≤ 1000000) : k ≤ sizeLine := Nat.le_trans h (by decide)
theorem ne_cols {H0 : Hp} {l : List Int} (h : H p = some (.lst (l.map V.int))) (h2 : H t = some (.lst ps)) (hr : Ow.Refs ps) (hne : l ≠ []) : p ≠ t := fun e => by
  subst e
  rw [h] at h2
  have e2 : l.map V.int = ps := by injection h2 with h2; injection h2
  cases l with
  | nil => exact hne rfl
  | cons x l =>
    obtain ⟨a, ha⟩ := hr (.int x) (by rw [← e2]; simp)
    cases ha
theorem Cols.upd {o : HO} (h : Cols H ps ls) (h2 : H t = some (.lst xs)) (hr : Ow.Refs xs) (hne : ∀ l ∈ ls, l ≠ []) : Cols (L2.upd H t o) ps ls := by
  induction h with
  | nil => exact .nil
  | cons h _ ih => exact .cons (by rw [upd_ne (ne_cols (H0 := H) h h2 hr (hne _ (.head _)))]; exact h) (ih fun l hl => hne l (.tail _ hl))
theorem tab_ne (hm : 0 < m) : ∀ l ∈ tab n m g, l ≠ [] := fun l hl e => by
  obtain ⟨f, _, rfl⟩ := List.mem_map.mp hl
  have := col_len m g f
  rw [e] at this
  simp at this
  omega
/-- [F(column) for column in columns] -/
theorem lc_cols {F : List Int → List Int} {σ : L2.St} {j : Nat} {vs : List Nat} {tt : TT} {te : TE} (hb : H b = some (.lst ps)) (hc : Cols H ps ls) (ne : ∀ l ∈ ls, F l ≠ []) (sz : ls.length ≤ 1000) (hw : ∀ x, wipe ((wipe σ vs).set j (some x)) vs = wipe σ vs)
    (turn : ∀ (p : Addr) (l : List Int) H', l ∈ ls → Ex H H' → H' p = some (.lst (l.map V.int)) → ∀ kk : Option V → Hp → Prop, (∀ p2 H4, Ex H' H4 → H4 p2 = some (.lst ((F l).map V.int)) → kk (some (.ref p2)) H4) →
      tt ((wipe σ vs).set j (some (.ref p))) H' fun b H3 => if b = true then te ((wipe σ vs).set j (some (.ref p))) H3 (fun y H4 => kk (some y) H4) else kk none H3)
    (k : ∀ p H2, Ex H H2 → ColsAt H2 p (ls.map F) → Q (.ref p) H2) : LK K (.ref b) H fun J H2 => LcGo J (gName j) tt te vs σ H2 Q := by
  have hl := hc.len
  have nb : ∀ i, ∀ l ∈ (ls.take i).map F, l ≠ [] := fun i l h => by
    obtain ⟨l', h', rfl⟩ := List.mem_map.mp h
    exact ne l' (List.mem_of_mem_take h')
  refine lc_lstC hb hc.nb (fun i acc H => Cols H acc ((ls.take i).map F) ∧ acc.length = i ∧ i ≤ ls.length ∧ Ow.Refs acc) (fun D _ => ⟨.nil, rfl, Nat.zero_le _, Ow.Refs.nil⟩) (fun i acc y H D hd h => ⟨h.1.upd hd (fun v hv => h.2.2.2 v (List.mem_append_left _ hv)) (nb _), h.2⟩) (fun i acc H h => ⟨h.1.nb, Nat.lt_of_le_of_lt (show _ ≤ 1000 by omega) (by decide)⟩) hw (fun i x acc H' hx e hI kk k1 => ?_) (fun p ys H2 e hp h2 hI => ?_)
  · obtain ⟨p, l, rfl, hl', hp⟩ := (hc.ex e).getV hx
    have hi := (List.getElem?_eq_some_iff.mp hl').1
    refine turn p l H' (List.mem_of_getElem? hl') e hp kk fun p2 H4 e4 h4 => ?_
    refine k1 _ _ e4 ⟨?_, by simp; omega, by omega, ?_⟩
    · rw [List.take_add_one, hl', List.map_append]
      exact (hI.1.ex e4).one h4
    · intro v hv
      rcases List.mem_append.mp hv with hv | hv
      · exact hI.2.2.2 v hv
      · exact ⟨p2, by simpa using hv⟩
  · have := hI.1
    rw [hl, List.take_of_length_le (Nat.le_refl _)] at this
    exact k p H2 e ⟨ys, h2, this⟩
theorem ok_behind_all (T : Txt K w mg a) : FnOk P w K mg base CX0 1 a.a_behind_all a.fd_behind_all ["columns", "call"] (sp_beh fun q => ∃ k, q = .all k) := by
  refine T.F_behind_all.ok sc_behind_all (fun vs H Q E h => ?_) (fun cdv A outer s H vs Q E hr h => ?_)
  · obtain ⟨b, p, q, n, m, g, rfl, _⟩ := h; rfl
  · obtain ⟨b, p, q, n, m, g, rfl, hp, ⟨c, rfl⟩, ho, hz, ⟨ps, hb, hc⟩, k⟩ := h
    obtain ⟨hn, hm, hm1⟩ := hz
    have nbp := hc.nb
    obtain ⟨p0, e0, h0⟩ := hc.get (tab_get (show 0 < n by omega))
    have hl0 : ((((col m g ((0 : Nat) : Int)).map V.int).length : Nat) : Int) = m := by rw [List.length_map, col_len]
    refine ⟨_, (pss_cons (ps_set (i := 2) sc_behind_all.nd rfl (Or.inr rfl) (pe_op op_mod (pe_ix ix_tup (pv 1) pe_int (fun _ _ => rfl)) (pe_callB c_len (by rfl) T.n_len PySem.boot_len (pa_cons (pe_ix ix_list (pv 0) pe_int (fun _ _ => rfl)) pa_nil))))
      (pss_one (ps_ret (pe_lc (own := [("column", 3)]) rfl sc_behind_all.nd (pi_list (pv 0)) (blkOk_by (own := [("column", 3)]) (N := ["columns", "call", "cut", "column"]) (sc := defScope s_behind_all) (by decide +kernel)) (fun _ _ _ _ _ => (pg_name (i := 3) sc_behind_all.nd rfl (Or.inl rfl) (Or.inr rfl))) (fun _ _ _ _ _ => pts_nil) (fun _ _ _ _ _ => (pe_op op_cat (pe_slice Ow.sl_listB (pv 3) (po_some (pv 2)) po_none) (pe_slice Ow.sl_listB (pv 3) po_none (po_some (pv 2))))))))), ?_⟩
    walk_at "rd"
    refine x_ixL hb (at_nat (by decide) e0) ?_
    walk_at "rd"
    rw [hl0]
    have b0 := Int.emod_nonneg c (show (m : Int) ≠ 0 by omega)
    have b1 := Int.emod_lt_of_pos c (show (0 : Int) < m by omega)
    have bt := beh_all (n := n) (g := g) (k := c) hm
    generalize c % (m : Int) = d at b0 b1 bt ⊢
    obtain ⟨d, rfl⟩ := Int.eq_ofNat_of_zero_le b0
    rw [Int.toNat_natCast] at bt
    have cl : ∀ l ∈ tab n m g, l.length = m := fun l hl => by obtain ⟨f, _, rfl⟩ := List.mem_map.mp hl; exact col_len ..
    refine lc_cols (F := fun l => l.drop d ++ l.take d) hb hc (fun l hl e => ?_) (by rw [tab_len]; omega) (fun x => rfl) (fun p l H' hl e hp' kk k1 => ?_) (fun t H2 e hc2 => ?_)
    · have := congrArg List.length e
      simp only [List.length_append, List.length_drop, List.length_take, List.length_nil, cl l hl] at this
      omega
    · have ll := cl l hl
      walk_at "rd"
      rename_i p2 H2 e2 f2 h2 p3 H3 e3 f3 h3
      rw [Ow.cut_drop] at h2
      rw [Ow.cut_take] at h3
      have h2' := e3.kp _ _ h2 (by rw [← List.map_drop]; exact NB.ints)
      refine x_cat h2' h3 (sz_line (by simp; omega)) ?_
      walk_at "rd"
      rename_i p4 H4 e4 f4 h4
      refine k1 _ _ (by walk_at "ex") ?_
      rw [h4, List.map_append, List.map_drop, List.map_take]
    · refine k t H2 e ?_
      rw [bt]
      exact hc2
end
end My

set_option Elab.async false
set_option linter.all false
set_option maxRecDepth 100000
set_option maxHeartbeats 8000000
namespace My
open PySem PySem.Spec PyProof.Rows L2 Sx
local macro_rules | `(tactic| walk_at "nb") => `(tactic| first | exact NB.tup | exact NB.ints | exact NB.len (of_decide_eq_true rfl) | exact NB.at0b rfl | exact NB.at3b rfl | exact NB.ins | exact NB.own | exact NB.frz | exact NB.refs (by assumption) | assumption)
local macro_rules | `(tactic| walk_at "ne") => `(tactic| first | assumption | exact Ne.symm (by assumption) | exact ne_of_none (by assumption) (by assumption) | exact Ne.symm (ne_of_none (by assumption) (by assumption)))
local macro_rules | `(tactic| walk_at "hk") => `(tactic| first
  | assumption
  | exact upd_same
  | (refine' (upd_ne ?hkne).trans ?hkq; (case hkne => walk_at "ne"); (case hkq => walk_at "hk"))
  | (refine' Ex.kp (by assumption) _ _ ?hkq ?hkn; (case hkq => walk_at "hk"); (case hkn => walk_at "nb")))
local macro_rules | `(tactic| walk_at "rd1") => `(tactic| first
  | ((with_reducible refine' x_var ?hx ?_); (case hx => exact rfl))
  | with_reducible refine x_c ?_
  | with_reducible refine x_op ?_
  | with_reducible refine x_un ?_
  | with_reducible refine x_I0 ?_
  | with_reducible refine x_U ?_
  | ((with_reducible refine x_I ?hc ?_); (case hc => first | exact (by decide : (0 : Int) < _) | (show (0 : Int) < _; omega) | (show CMul _ _; first | exact .inl ⟨by omega, by omega⟩ | exact .inr ⟨by omega, by omega⟩) | (show CDiv _ _; exact ⟨by omega, by omega⟩) | (show CDivW _ _; exact wide_div (b := 200) (by omega) (by assumption) (by decide) (by decide)) | (show CDivW _ _; exact wide_div (b := 31) (by omega) (by omega) (by decide) (by decide))))
  | with_reducible refine x_EqI ?_
  | with_reducible refine x_NeI ?_
  | ((with_reducible refine x_EqSt ?h ?_); (case h => decide +kernel))
  | ((with_reducible refine x_EqSf ?h ?_); (case h => decide +kernel))
  | ((with_reducible refine x_NeSt ?h ?_); (case h => decide +kernel))
  | ((with_reducible refine x_NeSf ?h ?_); (case h => decide +kernel))
  | with_reducible refine x_EqS ?_
  | with_reducible refine x_NeS ?_
  | ((with_reducible refine' x_ixL ?hq ?hi ?_); (case hq => walk_at "hk"); (case hi => first | exact rfl | assumption))
  | ((with_reducible refine' x_ixT ?hq ?hi ?_); (case hq => walk_at "hk"); (case hi => first | exact rfl | assumption))
  | with_reducible refine x_chain ?_
  | with_reducible refine x_tup ?_
  | with_reducible refine x_lst ?_
  | ((with_reducible refine x_lenNew ?hl ?_); (case hl => exact Nat.le_of_ble_eq_true rfl); intro _ _ _ _ _)
  | ((with_reducible refine x_new ?_); intro _ _ _ _ _)
  | with_reducible refine x_sl ?_
  | with_reducible refine x_noPart ?_
  | with_reducible refine x_part ?_
  | with_reducible refine x_ex_int ?_
  | with_reducible refine x_ex_bl ?_
  | with_reducible refine x_ex_2 ?_
  | with_reducible refine x_test ?_
  | with_reducible refine x_B ?_
  | with_reducible refine x_and ?_
  | with_reducible refine x_or ?_
  | with_reducible refine x_not ?_
  | with_reducible refine x_andV ?_
  | with_reducible refine x_orV ?_
  | with_reducible refine x_notV ?_
  | with_reducible refine x_ifE ?_
  | with_reducible refine x_iteT ?_
  | with_reducible refine x_iteF ?_
  | ((with_reducible refine x_iteD ?_ ?_) <;> intro _)
  | ((with_reducible refine x_iteN ?_ ?_) <;> intro _)
  | with_reducible refine x_if ?_
  | with_reducible refine x_seq ?_
  | with_reducible refine x_next ?_
  | with_reducible refine x_asg ?_
  | with_reducible refine x_gName ?_
  | ((with_reducible refine' x_gTup ?hq ?hn ?_); (case hq => walk_at "hk"); (case hn => exact rfl))
  | with_reducible refine x_gCons ?_
  | with_reducible refine x_gNil ?_
  | ((with_reducible refine' x_gConsE ?h ?_); (case h => exact rfl))
  | ((with_reducible refine x_gNilE ?h ?_); (case h => exact rfl))
  | with_reducible refine x_ret ?_
  | with_reducible refine x_drop ?_
  | with_reducible refine x_par ?_
  | ((with_reducible refine' x_aug ?hx ?_); (case hx => exact rfl))
  | with_reducible refine x_ipI ?_
  | with_reducible refine x_augS ?_
  | with_reducible refine x_gSub ?_
  | ((with_reducible refine' x_setL ?hq ?hi ?_); (case hq => walk_at "hk"); (case hi => first | exact rfl | assumption))
  | with_reducible refine x_cons ?_
  | with_reducible refine x_nil ?_
  | with_reducible refine x_CB ?_
  | with_reducible refine x_abs ?_
  | with_reducible refine x_intI ?_
  | with_reducible refine x_intB ?_
  | ((with_reducible refine' x_lenL ?hq ?_); (case hq => walk_at "hk"))
  | ((with_reducible refine' x_lenT ?hq ?_); (case hq => walk_at "hk"))
  | ((with_reducible refine x_iteTe ?h ?_); (case h => exact rfl))
  | ((with_reducible refine x_iteFe ?h ?_); (case h => exact rfl))
  | walk_at "use"
  | with_reducible refine x_callS ?_
  | ((with_reducible refine x_lc ?_))
  | ((with_reducible refine x_for ?_))
  | ((with_reducible refine x_iR1 ?_))
  | ((with_reducible refine x_iL ?_))
  | ((with_reducible refine x_iZ ?_))
  | ((with_reducible refine x_yes ?_))
  | ((with_reducible refine' x_NIDt ?hq ?_); (case hq => assumption))
  | ((with_reducible refine' x_NIDf ?hq ?_); (case hq => assumption))
  | ((with_reducible refine' x_IIDf ?hq ?_); (case hq => assumption))
  | ((with_reducible refine' x_IIDt ?hq ?_); (case hq => assumption))
  | ((with_reducible refine' x_ixDs ?hd ?hq ?_); (case hd => assumption); (case hq => assumption))
  | ((with_reducible refine x_InSt ?h ?_); (case h => decide +kernel))
  | ((with_reducible refine x_InSf ?h ?_); (case h => decide +kernel))
  | ((with_reducible refine' x_notInI ?hq ?_); (case hq => walk_at "hk"))
  | ((with_reducible refine' x_inTt ?hq ?hv ?ha ?he ?_); (case hq => walk_at "hk"); (case hv => exact rfl); (case ha => exact rfl); (case he => decide +kernel))
  | ((with_reducible refine' x_inTf ?hq ?hv ?ha ?he ?_); (case hq => walk_at "hk"); (case hv => exact rfl); (case ha => exact rfl); (case he => decide +kernel))
  | ((with_reducible refine' x_slT ?hq ?hw ?_); (case hq => walk_at "hk"); (case hw => with_unfolding_all exact of_decide_eq_true rfl))
  | ((with_reducible refine' x_slL ?hq ?_); (case hq => walk_at "hk"))
  | ((with_reducible refine' x_catT ?hq ?hr ?n1 ?n2 ?hl ?_); (case hq => walk_at "hk"); (case hr => walk_at "hk"); (case n1 => exact List.cons_ne_nil _ _); (case n2 => exact List.cons_ne_nil _ _); (case hl => exact Nat.le_of_ble_eq_true rfl))
  | ((with_reducible refine x_bm ?_))
  | ((with_reducible refine x_lstRg ?_))
  | ((with_reducible refine x_rg1 ?_))
  | ((with_reducible refine And.intro ?h ?_); (case h => exact tyL (by assumption)))
  | dsimp only)
local macro_rules | `(tactic| walk_at "use") => `(tactic| fail)
local macro_rules | `(tactic| walk_at "rd") => `(tactic| repeat' (walk_at "rd1"))
local macro_rules | `(tactic| walk_at "ex") => `(tactic| first | exact Ex.refl _ | assumption | (refine' Ex.trans ?he (by assumption); (case he => walk_at "ex")))
local macro_rules | `(tactic| walk_at "rd1") => `(tactic| first
  | ((with_reducible refine x_iteDf ?h ?_); (case h => exact rfl))
  | ((with_reducible refine x_iteDt ?h ?_); (case h => exact rfl))
  | ((with_reducible refine x_iteNf ?h ?_); (case h => exact rfl))
  | ((with_reducible refine x_iteNt ?h ?_); (case h => exact rfl))
  | ((with_reducible refine x_isiI (r := true) ?h ?_); (case h => decide +kernel))
  | ((with_reducible refine x_isiI (r := false) ?h ?_); (case h => decide +kernel))
  | ((with_reducible refine x_isiS (r := true) ?h ?_); (case h => decide +kernel))
  | ((with_reducible refine x_isiS (r := false) ?h ?_); (case h => decide +kernel))
  | ((with_reducible refine x_isiB (r := true) ?h ?_); (case h => decide +kernel))
  | ((with_reducible refine x_isiB (r := false) ?h ?_); (case h => decide +kernel))
  | ((with_reducible refine' x_isiT (r := true) ?hp ?h ?_); (case hp => walk_at "hk"); (case h => decide +kernel))
  | ((with_reducible refine' x_isiT (r := false) ?hp ?h ?_); (case hp => walk_at "hk"); (case h => decide +kernel))
  | ((with_reducible refine' x_isiL (r := true) ?hp ?h ?_); (case hp => walk_at "hk"); (case h => decide +kernel))
  | ((with_reducible refine' x_isiL (r := false) ?hp ?h ?_); (case hp => walk_at "hk"); (case h => decide +kernel))
  | ((with_reducible refine' x_isi2L ?hp ?hl ?_); (case hp => walk_at "hk"); (case hl => walk_at "hk"))
  | ((with_reducible refine' x_isi2T ?hp ?hl ?_); (case hp => walk_at "hk"); (case hl => walk_at "hk"))
  | ((with_reducible refine' x_tupOfL ?hq ?_); (case hq => walk_at "hk"))
  | ((with_reducible refine' x_tupOfT ?hq ?_); (case hq => walk_at "hk"))
  | ((with_reducible refine x_lenS ?h ?_); (case h => exact Nat.le_of_ble_eq_true rfl))
  | ((with_reducible refine' x_all ?hq ?_); (case hq => walk_at "hk"))
  | with_reducible refine x_lenSet ?_)
local macro_rules | `(tactic| walk_at "rd1") => `(tactic| first
  | with_reducible refine Er.x_iR2 ?_
  | with_reducible refine Er.x_iEn ?_
  | with_reducible refine Er.x_cont ?_
  | ((with_reducible refine Er.x_isBt ?h ?_); (case h => exact rfl))
  | ((with_reducible refine Er.x_isBf ?h ?_); (case h => exact rfl))
  | ((with_reducible refine Er.x_isNBt ?h ?_); (case h => exact rfl))
  | ((with_reducible refine Er.x_isNBf ?h ?_); (case h => exact rfl))
  | with_reducible refine Er.x_isB ?_
  | with_reducible refine Er.x_isNB ?_)

open Cl
local macro_rules | `(tactic| walk_at "nb") => `(tactic| first | exact NB.ints | assumption | (refine Ow.Refs.nb ?_; assumption))
local macro_rules | `(tactic| walk_at "rd1") => `(tactic| first
  | with_reducible refine Er.x_stepL ?_
  | ((with_reducible refine' Er.x_stepK ?h ?h0 ?_); (case h => walk_at "hk"); (case h0 => decide); intro _ _ _ _ _)
  | with_reducible refine Er.x_gStep ?_
  | ((with_reducible refine' x_listOfL ?h ?_); (case h => walk_at "hk")))
section
variable {P : Program} {w : World} {K : PySem.W.Frag} {mg : Str → Option Value} {base : Heap} {a : Ad} {H H1 : Hp} {Q : VK} {E : XK} {p b c t s dx : Addr} {fl gl : Int} {xs ps : List V} {qs us : List C} {n m : Nat} {g : Int → Int → Int} {ls : List (List Int)}
open Er
theorem col_ne (hm : 0 < m) {f : Int} : col m g f ≠ [] := fun e => by
  have := col_len m g f
  rw [e] at this
  simp at this
  omega
theorem ints_len {l : List Int} : (((l.map V.int).length : Nat) : Int) = l.length := by rw [List.length_map]
theorem ok_behind_up (T : Txt K w mg a) : FnOk P w K mg base CX0 1 a.a_behind_up a.fd_behind_up ["columns", "call"] (sp_beh fun q => ∃ f k, q = .up f k) := by
  refine T.F_behind_up.ok sc_behind_up (fun vs H Q E h => ?_) (fun cdv A outer s H vs Q E hr h => ?_)
  · obtain ⟨b, p, q, n, m, g, rfl, _⟩ := h; rfl
  · obtain ⟨b, p, q, n, m, g, rfl, hp, ⟨f, c, rfl⟩, ho, hz, ⟨ps, hb, hc⟩, k⟩ := h
    obtain ⟨hn, hm, hm1⟩ := hz
    obtain ⟨⟨f0, f1⟩, _⟩ : isFile n f ∧ c ≠ 0 := ho
    obtain ⟨f, rfl⟩ := Int.eq_ofNat_of_zero_le f0
    have hfn : f < n := by omega
    have nbp := hc.nb
    have hpl : ps.length = n := by rw [hc.len, tab_len]
    obtain ⟨pf, ef, hf⟩ := hc.get (tab_get hfn)
    refine ⟨_, (pss_cons (ps_set (i := 2) sc_behind_up.nd rfl (Or.inl rfl) (pe_callTy c_listOf (by rfl) T.n_list (by decide +kernel) (pa_cons (pv 0) pa_nil)))
      (pss_cons (ps_set (i := 3) sc_behind_up.nd rfl (Or.inl rfl) (pe_ix ix_list (pv 0) (pe_ix ix_tup (pv 1) pe_int (fun _ _ => rfl)) (fun _ _ => rfl)))
      (pss_cons (ps_set (i := 4) sc_behind_up.nd rfl (Or.inl rfl) (pe_op op_mod (pe_ix ix_tup (pv 1) pe_int (fun _ _ => rfl)) (pe_callB c_len (by rfl) T.n_len PySem.boot_len (pa_cons (pv 3) pa_nil))))
      (pss_cons (ps_asg (pe_op op_cat (pe_slice sl_list (pv 3) (po_some (pv 4)) po_none) (pe_slice sl_list (pv 3) po_none (po_some (pv 4)))) (pg_sub (pv 2) (pe_ix ix_tup (pv 1) pe_int (fun _ _ => rfl)) set_list))
      (pss_one (ps_ret (pv 2))))))), ?_⟩
    walk_at "rd"
    rename_i t0 H0 e0 f0' g0
    refine x_ixL (by walk_at "hk") (at_nat (by omega) (by rw [Int.toNat_natCast]; exact ef)) ?_
    walk_at "rd"
    rw [ints_len, col_len]
    refine x_I (show (0 : Int) < m by omega) ?_
    have b0 := Int.emod_nonneg c (show (m : Int) ≠ 0 by omega)
    have b1 := Int.emod_lt_of_pos c (show (0 : Int) < m by omega)
    have bt := beh_up (g := g) (k := c) hm hfn
    generalize c % (m : Int) = d at b0 b1 bt ⊢
    obtain ⟨d, rfl⟩ := Int.eq_ofNat_of_zero_le b0
    rw [Int.toNat_natCast] at bt
    walk_at "rd"
    rename_i p2 H2 e2 f2 h2 p3 H3 e3 f3 h3
    rw [Ow.cut_drop, ← List.map_drop] at h2
    rw [Ow.cut_take, ← List.map_take] at h3
    refine x_cat (e3.kp _ _ h2 NB.ints) h3 (sz_line (by simp [col]; omega)) ?_
    walk_at "rd"
    rename_i p4 H4 e4 f4 h4
    rw [← List.map_append] at h4
    have hc4 := hc.ex (e0.trans ((e2.trans e3).trans e4))
    have g4 := ((e2.trans e3).trans e4).kp _ _ g0 nbp
    refine x_setL g4 (i := (f : Int)) (j := f) (by unfold ixN; rw [if_pos (by omega)]; simp; omega) ?_
    have eF : Ex H (upd H4 t0 (.lst (ps.set f (.ref p4)))) := Ex.mut (e0.trans ((e2.trans e3).trans e4)) f0'
    walk_at "rd"
    refine k t0 _ eF ?_
    rw [bt]
    refine ⟨_, upd_same, (hc4.set h4 f).upd g4 hc.refs fun l hl => ?_⟩
    rw [← bt] at hl
    exact tab_ne hm l hl
theorem ix_nat {k i : Nat} (h : i < k) : ixN k (i : Int) = some i := by
  unfold ixN
  rw [if_pos (by omega), if_pos (by omega), Int.toNat_natCast]
theorem two_nat {f h : Int} (h1 : isFile n f) (h2 : isFile n h) (hn : f ≠ h) : ∃ i j : Nat, f = i ∧ h = j ∧ i < n ∧ j < n ∧ i ≠ j := by
  unfold isFile at h1 h2
  exact ⟨f.toNat, h.toNat, by omega, by omega, by omega, by omega, by omega⟩
/-- told[f], told[g] = .. -/
theorem sets_end {qs : C} {t0 pa pb : Addr} {i j : Nat} {la lb : List Int} {H4 : Hp} {k : Addr → Hp → Prop} (e : Ex H H4) (hn : NF H t0) (g4 : H4 t0 = some (.lst ps)) (hc : Cols H ps (tab n m g)) (hm : 0 < m) (h1 : H4 pa = some (.lst (la.map V.int))) (h2 : H4 pb = some (.lst (lb.map V.int)))
    (et : tab n m (mvg qs n m g) = ((tab n m g).set i la).set j lb) (kk : ∀ H5, Ex H H5 → ColsAt H5 t0 (tab n m (mvg qs n m g)) → k t0 H5) : k t0 (upd (upd H4 t0 (.lst (ps.set i (.ref pa)))) t0 (.lst ((ps.set i (.ref pa)).set j (.ref pb)))) := by
  have hc4 := hc.ex e
  have fin := ((hc4.set h1 i).set h2 j)
  rw [← et] at fin
  have ne := tab_ne (n := n) (g := mvg qs n m g) hm
  have eF : Ex H (upd (upd H4 t0 (.lst (ps.set i (.ref pa)))) t0 (.lst ((ps.set i (.ref pa)).set j (.ref pb)))) := Er.mutN (Er.mutN e hn g4 hc.nb) hn upd_same (hc4.set h1 i).nb
  refine kk _ eF ⟨_, upd_same, ?_⟩
  have e1 := fin.upd (o := .lst (ps.set i (.ref pa))) g4 hc.refs ne
  have hr1 : Ow.Refs (ps.set i (.ref pa)) := (hc4.set h1 i).refs
  exact e1.upd upd_same hr1 ne
theorem ok_behind_swap (T : Txt K w mg a) : FnOk P w K mg base CX0 1 a.a_behind_swap a.fd_behind_swap ["columns", "call"] (sp_beh fun q => ∃ f k, q = .swap f k) := by
  refine T.F_behind_swap.ok sc_behind_swap (fun vs H Q E h => ?_) (fun cdv A outer s H vs Q E hr h => ?_)
  · obtain ⟨b, p, q, n, m, g, rfl, _⟩ := h; rfl
  · obtain ⟨b, p, q, n, m, g, rfl, hp, ⟨f, c, rfl⟩, ho, hz, ⟨ps, hb, hc⟩, k⟩ := h
    obtain ⟨hn, hm, hm1⟩ := hz
    obtain ⟨h1, h2, h3⟩ : isFile n f ∧ isFile n c ∧ f ≠ c := ho
    obtain ⟨i, j, rfl, rfl, hi, hj, hij⟩ := two_nat h1 h2 h3
    have nbp := hc.nb
    have hpl : ps.length = n := by rw [hc.len, tab_len]
    obtain ⟨pi, ei, hpi⟩ := hc.get (tab_get hi)
    obtain ⟨pj, ej, hpj⟩ := hc.get (tab_get hj)
    have ai : atI ps (i : Int) = some (.ref pi) := at_nat (by omega) (by rw [Int.toNat_natCast]; exact ei)
    have aj : atI ps (j : Int) = some (.ref pj) := at_nat (by omega) (by rw [Int.toNat_natCast]; exact ej)
    refine ⟨_, (pss_cons (ps_asg (pe_slice sl_tup (pv 1) (po_some pe_int) po_none) (pg_tup rfl (pgs_cons (pg_name (i := 2) sc_behind_swap.nd rfl (Or.inl rfl)) (pgs_cons (pg_name (i := 3) sc_behind_swap.nd rfl (Or.inl rfl)) pgs_nil))))
      (pss_cons (ps_set (i := 4) sc_behind_swap.nd rfl (Or.inl rfl) (pe_callTy c_listOf (by rfl) T.n_list (by decide +kernel) (pa_cons (pv 0) pa_nil)))
      (pss_cons (ps_asg (pe_tup (pa_cons (pe_ix ix_list (pv 0) (pv 3) (fun _ _ => rfl)) (pa_cons (pe_ix ix_list (pv 0) (pv 2) (fun _ _ => rfl)) pa_nil))) (pg_tup rfl (pgs_cons (pg_sub (pv 4) (pv 2) set_list) (pgs_cons (pg_sub (pv 4) (pv 3) set_list) pgs_nil))))
      (pss_one (ps_ret (pv 4)))))), ?_⟩
    walk_at "rd"
    rename_i p1 H0 e0 f0' g0 t0 H2 e2 f2 h2 tp H3 e3 f3 h3
    refine x_setL (e3.kp _ _ h2 nbp) (ix_nat (by omega)) ?_
    walk_at "rd"
    refine x_setL upd_same (ix_nat (by rw [List.length_set]; omega)) ?_
    walk_at "rd"
    refine sets_end (qs := .swap i j) (k := fun t H5 => Q (.ref t) H5) (e0.trans (e2.trans e3)) (NF.new e0 f2) (e3.kp _ _ h2 nbp) hc hm (by walk_at "hk") (by walk_at "hk") (beh_swap hi hj hij) (fun H5 e5 h5 => k t0 H5 e5 h5)
theorem ok_behind_front (T : Txt K w mg a) : FnOk P w K mg base CX0 1 a.a_behind_front a.fd_behind_front ["columns", "call"] (sp_beh fun q => ∃ f k, q = .front f k) := by
  refine T.F_behind_front.ok sc_behind_front (fun vs H Q E h => ?_) (fun cdv A outer s H vs Q E hr h => ?_)
  · obtain ⟨b, p, q, n, m, g, rfl, _⟩ := h; rfl
  · obtain ⟨b, p, q, n, m, g, rfl, hp, ⟨f, c, rfl⟩, ho, hz, ⟨ps, hb, hc⟩, k⟩ := h
    obtain ⟨hn, hm, hm1⟩ := hz
    obtain ⟨h1, h2, h3⟩ : isFile n f ∧ isFile n c ∧ f ≠ c := ho
    obtain ⟨i, j, rfl, rfl, hi, hj, hij⟩ := two_nat h1 h2 h3
    have nbp := hc.nb
    have hpl : ps.length = n := by rw [hc.len, tab_len]
    obtain ⟨pi, ei, hpi⟩ := hc.get (tab_get hi)
    obtain ⟨pj, ej, hpj⟩ := hc.get (tab_get hj)
    have ai : atI ps (i : Int) = some (.ref pi) := at_nat (by omega) (by rw [Int.toNat_natCast]; exact ei)
    have aj : atI ps (j : Int) = some (.ref pj) := at_nat (by omega) (by rw [Int.toNat_natCast]; exact ej)
    refine ⟨_, (pss_cons (ps_asg (pe_slice sl_tup (pv 1) (po_some pe_int) po_none) (pg_tup rfl (pgs_cons (pg_name (i := 2) sc_behind_front.nd rfl (Or.inl rfl)) (pgs_cons (pg_name (i := 3) sc_behind_front.nd rfl (Or.inl rfl)) pgs_nil))))
      (pss_cons (ps_set (i := 4) sc_behind_front.nd rfl (Or.inl rfl) (pe_callTy c_listOf (by rfl) T.n_list (by decide +kernel) (pa_cons (pv 0) pa_nil)))
      (pss_cons (ps_asg (pe_tup (pa_cons (pe_op op_cat (pe_slice sl_list (pe_ix ix_list (pv 0) (pv 3) (fun _ _ => rfl)) po_none (po_some pe_int)) (pe_slice sl_list (pe_ix ix_list (pv 0) (pv 2) (fun _ _ => rfl)) (po_some pe_int) po_none)) (pa_cons (pe_op op_cat (pe_slice sl_list (pe_ix ix_list (pv 0) (pv 2) (fun _ _ => rfl)) po_none (po_some pe_int)) (pe_slice sl_list (pe_ix ix_list (pv 0) (pv 3) (fun _ _ => rfl)) (po_some pe_int) po_none)) pa_nil))) (pg_tup rfl (pgs_cons (pg_sub (pv 4) (pv 2) set_list) (pgs_cons (pg_sub (pv 4) (pv 3) set_list) pgs_nil))))
      (pss_one (ps_ret (pv 4)))))), ?_⟩
    walk_at "rd"
    rename_i p1 H0 e0 f0' g0 t0 H2 e2 f2 h2 pa H3 e3 f3 h3 pb H4 e4 f4 h4
    rw [Ow.cut_take_one, ← List.map_take] at h3
    rw [Ow.cut_drop_one, ← List.map_drop] at h4
    refine x_cat (e4.kp _ _ h3 NB.ints) h4 (sz_line (by simp [col]; omega)) ?_
    walk_at "rd"
    rename_i pc H5 e5 f5 h5 pd H6 e6 f6 h6 pe H7 e7 f7 h7
    rw [← List.map_append] at h5
    rw [Ow.cut_take_one, ← List.map_take] at h6
    rw [Ow.cut_drop_one, ← List.map_drop] at h7
    refine x_cat (e7.kp _ _ h6 NB.ints) h7 (sz_line (by simp [col]; omega)) ?_
    walk_at "rd"
    rename_i pf H8 e8 f8 h8 tp H9 e9 f9 h9
    rw [← List.map_append] at h8
    have e29 : Ex H2 H9 := by walk_at "ex"
    have k5 := ((e6.trans e7).trans (e8.trans e9)).kp _ _ h5 NB.ints
    have k8 := e9.kp _ _ h8 NB.ints
    refine x_setL (e29.kp _ _ h2 nbp) (ix_nat (by omega)) ?_
    walk_at "rd"
    refine x_setL upd_same (ix_nat (by rw [List.length_set]; omega)) ?_
    walk_at "rd"
    exact sets_end (qs := .front i j) (k := fun t H5 => Q (.ref t) H5) ((e0.trans e2).trans e29) (NF.new e0 f2) (e29.kp _ _ h2 nbp) hc hm k5 k8 (beh_front hm hi hj hij) (fun H5 e5 h5 => k t0 H5 e5 h5)
theorem back_take {l : List Int} {m : Nat} (hl : m ≤ l.length) (hm : 0 < m) : pickV (l.map V.int) (some ((m : Int) - 1)) none (some (-1)) = ((l.take m).reverse).map V.int := by
  rw [show (m : Int) - 1 = ((m - 1 : Nat) : Int) by omega, pickV_ints, places_back (m - 1) (by omega), show m - 1 + 1 = m by omega]
  congr 1
  have e : (l.take m).length = m := by rw [List.length_take]; omega
  have := rev_any (xs := l.take m)
  rw [e] at this
  rw [← this]
  have gen : ∀ ks : List Nat, (∀ k ∈ ks, k < m) → ks.filterMap (l[·]?) = ks.filterMap ((l.take m)[·]?) := fun ks => by
    induction ks with
    | nil => intro _; rfl
    | cons k ks ih => intro h; rw [List.filterMap_cons, List.filterMap_cons, ih fun z hz => h z (.tail _ hz), List.getElem?_take, if_pos (h k (.head _))]
  exact gen _ fun k hk => by obtain ⟨i, hi, rfl⟩ := List.mem_map.mp hk; have := List.mem_range.mp hi; omega
theorem ok_behind_wheel (T : Txt K w mg a) : FnOk P w K mg base CX0 1 a.a_behind_wheel a.fd_behind_wheel ["columns", "call"] (sp_beh fun q => ∃ f k c, q = .wheel f k c) := by
  refine T.F_behind_wheel.ok sc_behind_wheel (fun vs H Q E h => ?_) (fun cdv A outer s H vs Q E hr h => ?_)
  · obtain ⟨b, p, q, n, m, g, rfl, _⟩ := h; rfl
  · obtain ⟨b, p, q, n, m, g, rfl, hp, ⟨f, c, d, rfl⟩, ho, hz, ⟨ps, hb, hc⟩, k⟩ := h
    obtain ⟨hn, hm, hm1⟩ := hz
    obtain ⟨h1, h2, h3, _⟩ : isFile n f ∧ isFile n c ∧ f ≠ c ∧ d ≠ 0 := ho
    obtain ⟨i, j, rfl, rfl, hi, hj, hij⟩ := two_nat h1 h2 h3
    have nbp := hc.nb
    have hpl : ps.length = n := by rw [hc.len, tab_len]
    obtain ⟨pi, ei, hpi⟩ := hc.get (tab_get hi)
    obtain ⟨pj, ej, hpj⟩ := hc.get (tab_get hj)
    have ai : atI ps (i : Int) = some (.ref pi) := at_nat (by omega) (by rw [Int.toNat_natCast]; exact ei)
    have aj : atI ps (j : Int) = some (.ref pj) := at_nat (by omega) (by rw [Int.toNat_natCast]; exact ej)
    refine ⟨_, (pss_cons (ps_asg (pe_slice sl_tup (pv 1) (po_some pe_int) po_none) (pg_tup rfl (pgs_cons (pg_name (i := 2) sc_behind_wheel.nd rfl (Or.inl rfl)) (pgs_cons (pg_name (i := 3) sc_behind_wheel.nd rfl (Or.inl rfl)) (pgs_cons (pg_name (i := 4) sc_behind_wheel.nd rfl (Or.inl rfl)) pgs_nil)))))
      (pss_cons (ps_set (i := 5) sc_behind_wheel.nd rfl (Or.inl rfl) (pe_callTy c_listOf (by rfl) T.n_list (by decide +kernel) (pa_cons (pv 0) pa_nil)))
      (pss_cons (ps_set (i := 6) sc_behind_wheel.nd rfl (Or.inl rfl) (pe_callB c_len (by rfl) T.n_len PySem.boot_len (pa_cons (pe_ix ix_list (pv 0) (pv 2) (fun _ _ => rfl)) pa_nil)))
      (pss_cons (ps_set (i := 7) sc_behind_wheel.nd rfl (Or.inl rfl) (pe_op op_cat (Er.pe_stepL (pe_ix ix_list (pv 0) (pv 2) (fun _ _ => rfl)) po_none po_none (po_some (pe_un un_neg pe_int))) (pe_ix ix_list (pv 0) (pv 3) (fun _ _ => rfl))))
      (pss_cons (ps_set (i := 8) sc_behind_wheel.nd rfl (Or.inl rfl) (pe_op op_mod (pe_un un_neg (pv 4)) (pe_callB c_len (by rfl) T.n_len PySem.boot_len (pa_cons (pv 7) pa_nil))))
      (pss_cons (ps_set (i := 7) sc_behind_wheel.nd rfl (Or.inl rfl) (pe_op op_cat (pe_slice sl_list (pv 7) (po_some (pv 8)) po_none) (pe_slice sl_list (pv 7) po_none (po_some (pv 8)))))
      (pss_cons (ps_asg (pe_tup (pa_cons (Er.pe_stepL (pv 7) (po_some (pe_op op_sub (pv 6) pe_int)) po_none (po_some (pe_un un_neg pe_int))) (pa_cons (pe_slice sl_list (pv 7) (po_some (pv 6)) po_none) pa_nil))) (pg_tup rfl (pgs_cons (pg_sub (pv 5) (pv 2) set_list) (pgs_cons (pg_sub (pv 5) (pv 3) set_list) pgs_nil))))
      (pss_one (ps_ret (pv 5)))))))))), ?_⟩
    walk_at "rd"
    rename_i p1 H0 e0 f0' g0 t0 H2 e2 f2 h2 pa H3 e3 f3 h3
    rw [pick_rev, ← List.map_reverse] at h3
    refine x_cat h3 ((e0.trans (e2.trans e3)).kp _ _ hpj NB.ints) (sz_line (by simp [col]; omega)) ?_
    walk_at "rd"
    rename_i pc H5 e5 f5 h5
    rw [← List.map_append, show (col m g i).reverse ++ col m g j = ring m g i j from rfl] at h5
    simp only [ints_len, col_len, ← List.map_reverse, ← List.map_append]
    rw [show (((col m g i).reverse ++ col m g j).length : Int) = ((2 * m : Nat) : Int) by rw [show (col m g i).reverse ++ col m g j = ring m g i j from rfl, ring_len]]
    refine x_I (show (0 : Int) < ((2 * m : Nat) : Int) by omega) ?_
    have b0 := Int.emod_nonneg (-d) (show ((2 * m : Nat) : Int) ≠ 0 by omega)
    have b1 := Int.emod_lt_of_pos (-d) (show (0 : Int) < ((2 * m : Nat) : Int) by omega)
    have bt := beh_wheel (g := g) (k := d) hm hi hj hij _ rfl
    generalize -d % ((2 * m : Nat) : Int) = z at b0 b1 bt ⊢
    obtain ⟨z, rfl⟩ := Int.eq_ofNat_of_zero_le b0
    rw [Int.toNat_natCast] at bt
    walk_at "rd"
    rename_i p6 H6 e6 f6 h6 p7 H7 e7 f7 h7
    rw [Ow.cut_drop, ← List.map_drop] at h6
    rw [Ow.cut_take, ← List.map_take] at h7
    have rl : (ring m g i j).length = 2 * m := ring_len
    refine x_cat (e7.kp _ _ h6 NB.ints) h7 (sz_line (by simp only [List.length_map, List.length_drop, List.length_take, rl]; omega)) ?_
    walk_at "rd"
    rename_i p8 H8 e8 f8 h8 p9 H9 e9 f9 h9
    rw [← List.map_append] at h8 h9
    generalize hR : List.drop z (ring m g i j) ++ List.take z (ring m g i j) = R at h8 h9 bt
    have hRl : R.length = 2 * m := by rw [← hR]; simp only [List.length_append, List.length_drop, List.length_take, rl]; omega
    rw [back_take (by omega) hm] at h9
    have h89 := e9.kp _ _ h8 NB.ints
    refine x_slL h89 ?_
    walk_at "rd"
    rename_i pA HA eA fA hA tp HB eB fB hB
    rw [Ow.cut_drop, ← List.map_drop] at hA
    have e2B : Ex H2 HB := by walk_at "ex"
    have k9 := (eA.trans eB).kp _ _ h9 NB.ints
    have kA := eB.kp _ _ hA NB.ints
    refine x_setL (e2B.kp _ _ h2 nbp) (ix_nat (by omega)) ?_
    walk_at "rd"
    refine x_setL upd_same (ix_nat (by rw [List.length_set]; omega)) ?_
    walk_at "rd"
    exact sets_end (qs := .wheel i j d) (k := fun t H5 => Q (.ref t) H5) ((e0.trans e2).trans e2B) (NF.new e0 f2) (e2B.kp _ _ h2 nbp) hc hm k9 kA bt (fun H5 e5 h5 => k t0 H5 e5 h5)
theorem ok_behind_about (T : Txt K w mg a) : FnOk P w K mg base CX0 1 a.a_behind_about a.fd_behind_about ["columns", "call"] (sp_beh fun q => q = .about) := by
  refine T.F_behind_about.ok sc_behind_about (fun vs H Q E h => ?_) (fun cdv A outer s H vs Q E hr h => ?_)
  · obtain ⟨b, p, q, n, m, g, rfl, _⟩ := h; rfl
  · obtain ⟨b, p, q, n, m, g, rfl, hp, rfl, ho, hz, ⟨ps, hb, hc⟩, k⟩ := h
    obtain ⟨hn, hm, hm1⟩ := hz
    have nbp := hc.nb
    refine ⟨_, (pss_one (ps_ret (pe_lc (own := [("column", 2)]) rfl sc_behind_about.nd (pi_list (Er.pe_stepL (pv 0) po_none po_none (po_some (pe_un un_neg pe_int)))) (blkOk_by (own := [("column", 2)]) (N := ["columns", "call", "column"]) (sc := defScope s_behind_about) (by decide +kernel)) (fun _ _ _ _ _ => (pg_name (i := 2) sc_behind_about.nd rfl (Or.inl rfl) (Or.inr rfl))) (fun _ _ _ _ _ => pts_nil) (fun _ _ _ _ _ => (Er.pe_stepLB (pv 2) po_none po_none (po_some (pe_un un_neg pe_int))))))), ?_⟩
    walk_at "rd"
    rename_i p1 H1 e1 f1 h1
    rw [pick_rev] at h1
    have ne : ∀ l ∈ (tab n m g).reverse, l ≠ [] := fun l hl => tab_ne hm l (List.mem_reverse.mp hl)
    refine lc_cols (F := List.reverse) h1 (hc.ex e1).rev (fun l hl e => ne l hl (List.reverse_eq_nil_iff.mp e)) (by rw [List.length_reverse, tab_len]; omega) (fun x => rfl) (fun p l H' hl e hp' kk k1 => ?_) (fun t H2 e hc2 => ?_)
    · walk_at "rd"
      rename_i p3 H3 e3 f3 h3
      refine k1 _ _ e3 ?_
      rw [h3, pick_rev, List.map_reverse]
    · refine k t H2 (e1.trans e) ?_
      rw [beh_about]
      exact hc2
theorem pick2 {l : List Int} {s : Nat} (hs : s ≤ l.length) : (places l.length (some (s : Int)) none (some 2)).filterMap (l[·]?) = ((List.range ((l.length - s + 1) / 2)).map fun i => s + 2 * i).filterMap (l[·]?) := by
  have := places_up (n := l.length) (c := 2) s (by decide) hs
  rw [show ((2 : Nat) : Int) = 2 from rfl] at this
  rw [this, show l.length - s + 2 - 1 = l.length - s + 1 by omega]
theorem pick20 {l : List Int} : (places l.length none none (some 2)).filterMap (l[·]?) = ((List.range ((l.length + 1) / 2)).map fun i => 2 * i).filterMap (l[·]?) := by
  have := places_none (n := l.length) (c := 2) (by decide)
  rw [show ((2 : Nat) : Int) = 2 from rfl] at this
  rw [this, pick2 (Nat.zero_le _)]
  simp
theorem ok_behind_others (T : Txt K w mg a) : FnOk P w K mg base CX0 1 a.a_behind_others a.fd_behind_others ["columns", "call"] (sp_beh fun q => q = .others) := by
  refine T.F_behind_others.ok sc_behind_others (fun vs H Q E h => ?_) (fun cdv A outer s H vs Q E hr h => ?_)
  · obtain ⟨b, p, q, n, m, g, rfl, _⟩ := h; rfl
  · obtain ⟨b, p, q, n, m, g, rfl, hp, rfl, ho, hz, ⟨ps, hb, hc⟩, k⟩ := h
    obtain ⟨hn, hm, hm1⟩ := hz
    have nbp := hc.nb
    have bt := beh_others (n := n) (g := g) hm
    have cl : ∀ l ∈ tab n m g, l.length = m := fun l hl => by obtain ⟨f, _, rfl⟩ := List.mem_map.mp hl; exact col_len ..
    have ne : ∀ l ∈ tab n m (mvg .others n m g), l ≠ [] := tab_ne hm
    rw [bt] at ne
    refine ⟨_, (pss_one (ps_ret (pe_lc (own := [("column", 2)]) rfl sc_behind_others.nd (pi_list (pv 0)) (blkOk_by (own := [("column", 2)]) (N := ["columns", "call", "column"]) (sc := defScope s_behind_others) (by decide +kernel)) (fun _ _ _ _ _ => (pg_name (i := 2) sc_behind_others.nd rfl (Or.inl rfl) (Or.inr rfl))) (fun _ _ _ _ _ => pts_nil) (fun _ _ _ _ _ => (pe_op op_cat (Er.pe_stepLB (pv 2) po_none po_none (po_some pe_int)) (Er.pe_stepLB (pv 2) (po_some pe_int) po_none (po_some pe_int))))))), ?_⟩
    walk_at "rd"
    refine lc_cols (F := fun l => ((List.range ((m + 1) / 2)).map fun i => 2 * i).filterMap (l[·]?) ++ ((List.range (m / 2)).map fun i => 1 + 2 * i).filterMap (l[·]?)) hb hc (fun l hl => ne _ (List.mem_map_of_mem hl)) (by rw [tab_len]; omega) (fun x => rfl) (fun p l H' hl e hp' kk k1 => ?_) (fun t H2 e hc2 => ?_)
    · have ll := cl l hl
      walk_at "rd"
      rename_i p3 H3 e3 f3 h3 p4 H4 e4 f4 h4
      rw [pickV_ints, pick20, ll] at h3
      rw [pickV_ints, show (1 : Int) = ((1 : Nat) : Int) from rfl, pick2 (by omega), ll, show (m - 1 + 1) / 2 = m / 2 by rw [show m - 1 + 1 = m by omega]] at h4
      have b1 := List.length_filterMap_le (l[·]?) ((List.range ((m + 1) / 2)).map fun i => 2 * i)
      have b2 := List.length_filterMap_le (l[·]?) ((List.range (m / 2)).map fun i => 1 + 2 * i)
      rw [List.length_map, List.length_range] at b1 b2
      refine x_cat (e4.kp _ _ h3 NB.ints) h4 (sz_line (by rw [List.length_map, List.length_map]; omega)) ?_
      walk_at "rd"
      rename_i p5 H5 e5 f5 h5
      refine k1 _ _ (by walk_at "ex") ?_
      rw [h5, List.map_append]
    · refine k t H2 e ?_
      rw [bt]
      exact hc2
end
end My

set_option Elab.async false
set_option linter.all false
set_option maxRecDepth 100000
set_option maxHeartbeats 8000000
namespace My
open PySem PySem.Spec PyProof.Rows L2 Sx
local macro_rules | `(tactic| walk_at "nb") => `(tactic| first | exact NB.tup | exact NB.ints | exact NB.len (of_decide_eq_true rfl) | exact NB.at0b rfl | exact NB.at3b rfl | exact NB.ins | exact NB.own | exact NB.frz | exact NB.refs (by assumption) | assumption)
local macro_rules | `(tactic| walk_at "ne") => `(tactic| first | assumption | exact Ne.symm (by assumption) | exact ne_of_none (by assumption) (by assumption) | exact Ne.symm (ne_of_none (by assumption) (by assumption)))
local macro_rules | `(tactic| walk_at "hk") => `(tactic| first
  | assumption
  | exact upd_same
  | (refine' (upd_ne ?hkne).trans ?hkq; (case hkne => walk_at "ne"); (case hkq => walk_at "hk"))
  | (refine' Ex.kp (by assumption) _ _ ?hkq ?hkn; (case hkq => walk_at "hk"); (case hkn => walk_at "nb")))
local macro_rules | `(tactic| walk_at "rd1") => `(tactic| first
  | ((with_reducible refine' x_var ?hx ?_); (case hx => exact rfl))
  | with_reducible refine x_c ?_
  | with_reducible refine x_op ?_
  | with_reducible refine x_un ?_
  | with_reducible refine x_I0 ?_
  | with_reducible refine x_U ?_
  | ((with_reducible refine x_I ?hc ?_); (case hc => first | exact (by decide : (0 : Int) < _) | (show (0 : Int) < _; omega) | (show CMul _ _; first | exact .inl ⟨by omega, by omega⟩ | exact .inr ⟨by omega, by omega⟩) | (show CDiv _ _; exact ⟨by omega, by omega⟩) | (show CDivW _ _; exact wide_div (b := 200) (by omega) (by assumption) (by decide) (by decide)) | (show CDivW _ _; exact wide_div (b := 31) (by omega) (by omega) (by decide) (by decide))))
  | with_reducible refine x_EqI ?_
  | with_reducible refine x_NeI ?_
  | ((with_reducible refine x_EqSt ?h ?_); (case h => decide +kernel))
  | ((with_reducible refine x_EqSf ?h ?_); (case h => decide +kernel))
  | ((with_reducible refine x_NeSt ?h ?_); (case h => decide +kernel))
  | ((with_reducible refine x_NeSf ?h ?_); (case h => decide +kernel))
  | with_reducible refine x_EqS ?_
  | with_reducible refine x_NeS ?_
  | ((with_reducible refine' x_ixL ?hq ?hi ?_); (case hq => walk_at "hk"); (case hi => first | exact rfl | assumption))
  | ((with_reducible refine' x_ixT ?hq ?hi ?_); (case hq => walk_at "hk"); (case hi => first | exact rfl | assumption))
  | with_reducible refine x_chain ?_
  | with_reducible refine x_tup ?_
  | with_reducible refine x_lst ?_
  | ((with_reducible refine x_lenNew ?hl ?_); (case hl => exact Nat.le_of_ble_eq_true rfl); intro _ _ _ _ _)
  | ((with_reducible refine x_new ?_); intro _ _ _ _ _)
  | with_reducible refine x_sl ?_
  | with_reducible refine x_noPart ?_
  | with_reducible refine x_part ?_
  | with_reducible refine x_ex_int ?_
  | with_reducible refine x_ex_bl ?_
  | with_reducible refine x_ex_2 ?_
  | with_reducible refine x_test ?_
  | with_reducible refine x_B ?_
  | with_reducible refine x_and ?_
  | with_reducible refine x_or ?_
  | with_reducible refine x_not ?_
  | with_reducible refine x_andV ?_
  | with_reducible refine x_orV ?_
  | with_reducible refine x_notV ?_
  | with_reducible refine x_ifE ?_
  | with_reducible refine x_iteT ?_
  | with_reducible refine x_iteF ?_
  | ((with_reducible refine x_iteD ?_ ?_) <;> intro _)
  | ((with_reducible refine x_iteN ?_ ?_) <;> intro _)
  | with_reducible refine x_if ?_
  | with_reducible refine x_seq ?_
  | with_reducible refine x_next ?_
  | with_reducible refine x_asg ?_
  | with_reducible refine x_gName ?_
  | ((with_reducible refine' x_gTup ?hq ?hn ?_); (case hq => walk_at "hk"); (case hn => exact rfl))
  | with_reducible refine x_gCons ?_
  | with_reducible refine x_gNil ?_
  | ((with_reducible refine' x_gConsE ?h ?_); (case h => exact rfl))
  | ((with_reducible refine x_gNilE ?h ?_); (case h => exact rfl))
  | with_reducible refine x_ret ?_
  | with_reducible refine x_drop ?_
  | with_reducible refine x_par ?_
  | ((with_reducible refine' x_aug ?hx ?_); (case hx => exact rfl))
  | with_reducible refine x_ipI ?_
  | with_reducible refine x_augS ?_
  | with_reducible refine x_gSub ?_
  | ((with_reducible refine' x_setL ?hq ?hi ?_); (case hq => walk_at "hk"); (case hi => first | exact rfl | assumption))
  | with_reducible refine x_cons ?_
  | with_reducible refine x_nil ?_
  | with_reducible refine x_CB ?_
  | with_reducible refine x_abs ?_
  | with_reducible refine x_intI ?_
  | with_reducible refine x_intB ?_
  | ((with_reducible refine' x_lenL ?hq ?_); (case hq => walk_at "hk"))
  | ((with_reducible refine' x_lenT ?hq ?_); (case hq => walk_at "hk"))
  | ((with_reducible refine x_iteTe ?h ?_); (case h => exact rfl))
  | ((with_reducible refine x_iteFe ?h ?_); (case h => exact rfl))
  | walk_at "use"
  | with_reducible refine x_callS ?_
  | ((with_reducible refine x_lc ?_))
  | ((with_reducible refine x_for ?_))
  | ((with_reducible refine x_iR1 ?_))
  | ((with_reducible refine x_iL ?_))
  | ((with_reducible refine x_iZ ?_))
  | ((with_reducible refine x_yes ?_))
  | ((with_reducible refine' x_NIDt ?hq ?_); (case hq => assumption))
  | ((with_reducible refine' x_NIDf ?hq ?_); (case hq => assumption))
  | ((with_reducible refine' x_IIDf ?hq ?_); (case hq => assumption))
  | ((with_reducible refine' x_IIDt ?hq ?_); (case hq => assumption))
  | ((with_reducible refine' x_ixDs ?hd ?hq ?_); (case hd => assumption); (case hq => assumption))
  | ((with_reducible refine x_InSt ?h ?_); (case h => decide +kernel))
  | ((with_reducible refine x_InSf ?h ?_); (case h => decide +kernel))
  | ((with_reducible refine' x_notInI ?hq ?_); (case hq => walk_at "hk"))
  | ((with_reducible refine' x_inTt ?hq ?hv ?ha ?he ?_); (case hq => walk_at "hk"); (case hv => exact rfl); (case ha => exact rfl); (case he => decide +kernel))
  | ((with_reducible refine' x_inTf ?hq ?hv ?ha ?he ?_); (case hq => walk_at "hk"); (case hv => exact rfl); (case ha => exact rfl); (case he => decide +kernel))
  | ((with_reducible refine' x_slT ?hq ?hw ?_); (case hq => walk_at "hk"); (case hw => with_unfolding_all exact of_decide_eq_true rfl))
  | ((with_reducible refine' x_slL ?hq ?_); (case hq => walk_at "hk"))
  | ((with_reducible refine' x_catT ?hq ?hr ?n1 ?n2 ?hl ?_); (case hq => walk_at "hk"); (case hr => walk_at "hk"); (case n1 => exact List.cons_ne_nil _ _); (case n2 => exact List.cons_ne_nil _ _); (case hl => exact Nat.le_of_ble_eq_true rfl))
  | ((with_reducible refine x_bm ?_))
  | ((with_reducible refine x_lstRg ?_))
  | ((with_reducible refine x_rg1 ?_))
  | ((with_reducible refine And.intro ?h ?_); (case h => exact tyL (by assumption)))
  | dsimp only)
local macro_rules | `(tactic| walk_at "use") => `(tactic| fail)
local macro_rules | `(tactic| walk_at "rd") => `(tactic| repeat' (walk_at "rd1"))
local macro_rules | `(tactic| walk_at "ex") => `(tactic| first | exact Ex.refl _ | assumption | (refine' Ex.trans ?he (by assumption); (case he => walk_at "ex")))
local macro_rules | `(tactic| walk_at "rd1") => `(tactic| first
  | ((with_reducible refine x_iteDf ?h ?_); (case h => exact rfl))
  | ((with_reducible refine x_iteDt ?h ?_); (case h => exact rfl))
  | ((with_reducible refine x_iteNf ?h ?_); (case h => exact rfl))
  | ((with_reducible refine x_iteNt ?h ?_); (case h => exact rfl))
  | ((with_reducible refine x_isiI (r := true) ?h ?_); (case h => decide +kernel))
  | ((with_reducible refine x_isiI (r := false) ?h ?_); (case h => decide +kernel))
  | ((with_reducible refine x_isiS (r := true) ?h ?_); (case h => decide +kernel))
  | ((with_reducible refine x_isiS (r := false) ?h ?_); (case h => decide +kernel))
  | ((with_reducible refine x_isiB (r := true) ?h ?_); (case h => decide +kernel))
  | ((with_reducible refine x_isiB (r := false) ?h ?_); (case h => decide +kernel))
  | ((with_reducible refine' x_isiT (r := true) ?hp ?h ?_); (case hp => walk_at "hk"); (case h => decide +kernel))
  | ((with_reducible refine' x_isiT (r := false) ?hp ?h ?_); (case hp => walk_at "hk"); (case h => decide +kernel))
  | ((with_reducible refine' x_isiL (r := true) ?hp ?h ?_); (case hp => walk_at "hk"); (case h => decide +kernel))
  | ((with_reducible refine' x_isiL (r := false) ?hp ?h ?_); (case hp => walk_at "hk"); (case h => decide +kernel))
  | ((with_reducible refine' x_isi2L ?hp ?hl ?_); (case hp => walk_at "hk"); (case hl => walk_at "hk"))
  | ((with_reducible refine' x_isi2T ?hp ?hl ?_); (case hp => walk_at "hk"); (case hl => walk_at "hk"))
  | ((with_reducible refine' x_tupOfL ?hq ?_); (case hq => walk_at "hk"))
  | ((with_reducible refine' x_tupOfT ?hq ?_); (case hq => walk_at "hk"))
  | ((with_reducible refine x_lenS ?h ?_); (case h => exact Nat.le_of_ble_eq_true rfl))
  | ((with_reducible refine' x_all ?hq ?_); (case hq => walk_at "hk"))
  | with_reducible refine x_lenSet ?_)
local macro_rules | `(tactic| walk_at "rd1") => `(tactic| first
  | with_reducible refine Er.x_iR2 ?_
  | with_reducible refine Er.x_iEn ?_
  | with_reducible refine Er.x_cont ?_
  | ((with_reducible refine Er.x_isBt ?h ?_); (case h => exact rfl))
  | ((with_reducible refine Er.x_isBf ?h ?_); (case h => exact rfl))
  | ((with_reducible refine Er.x_isNBt ?h ?_); (case h => exact rfl))
  | ((with_reducible refine Er.x_isNBf ?h ?_); (case h => exact rfl))
  | with_reducible refine Er.x_isB ?_
  | with_reducible refine Er.x_isNB ?_)

open Cl
local macro_rules | `(tactic| walk_at "nb") => `(tactic| first | exact NB.ints | assumption | (refine Ow.Refs.nb ?_; assumption))
local macro_rules | `(tactic| walk_at "rd1") => `(tactic| first
  | with_reducible refine Er.x_stepL ?_
  | with_reducible refine Er.x_gStep ?_
  | with_reducible refine Er.x_iR3 ?_
  | with_reducible refine Er.x_lc2 ?_
  | ((with_reducible refine' x_listOfL ?h ?_); (case h => walk_at "hk")))
section
variable {P : Program} {w : World} {K : PySem.W.Frag} {mg : Str → Option Value} {base : Heap} {a : Ad} {H H1 : Hp} {Q : VK} {E : XK} {p b c t s dx : Addr} {fl gl : Int} {xs ps : List V} {qs us : List C} {n m : Nat} {g : Int → Int → Int} {ls : List (List Int)} {h : Int → Int}
open Er
theorem Sz.lt (hz : Sz n m) : n * m ≤ 300000 := by
  obtain ⟨hn, _, hm⟩ := hz
  rcases hn with rfl | rfl <;> omega
theorem Sz.n0 (hz : Sz n m) : 0 < n := by rcases hz.1 with rfl | rfl <;> decide
theorem rep_ints {k : Nat} : (List.replicate k [V.int 0]).flatten = (List.replicate k (0 : Int)).map V.int := by
  induction k with
  | zero => rfl
  | succ k ih => rw [List.replicate_succ, List.flatten_cons, ih, List.replicate_succ, List.map_cons]; rfl
/-! the order -/
def sp_order_of : Sp := fun vs H Q _ => ∃ (b : Addr) (n m : Nat) (g : Int → Int → Int), vs = [.ref b] ∧ Sz n m ∧ ColsAt H b (tab n m g) ∧ ∀ t H1, Ex H H1 → NF H t → H1 t = some (.lst ((ord n m g).map V.int)) → Q (.ref t) H1
theorem u_order_of (hz : Sz n m) (hc : ColsAt H b (tab n m g)) (k : ∀ t H1, Ex H H1 → NF H t → H1 t = some (.lst ((ord n m g).map V.int)) → Q (.ref t) H1) : sp_order_of [.ref b] H Q E := ⟨b, n, m, g, rfl, hz, hc, k⟩
theorem ok_order_of (T : Txt K w mg a) : FnOk P w K mg base CX0 1 a.a_order_of a.fd_order_of ["columns"] sp_order_of := by
  refine T.F_order_of.ok sc_order_of (fun vs H Q E h => ?_) (fun cdv A outer s H vs Q E hr h => ?_)
  · obtain ⟨b, n, m, g, rfl, _⟩ := h; rfl
  · obtain ⟨b, n, m, g, rfl, hz, ⟨ps, hb, hc⟩, k⟩ := h
    have hnm := hz.lt
    have n0 := hz.n0
    obtain ⟨hn, hm, hm1⟩ := hz
    have nbp := hc.nb
    have hpl : ps.length = n := by rw [hc.len, tab_len]
    obtain ⟨p0, e0, h0⟩ := hc.get (tab_get (show 0 < n by omega))
    have hl0 : ((((col m g ((0 : Nat) : Int)).map V.int).length : Nat) : Int) = m := by rw [List.length_map, col_len]
    refine ⟨_, (pss_cons (ps_set (i := 1) sc_order_of.nd rfl (Or.inl rfl) (pe_callB c_len (by rfl) T.n_len PySem.boot_len (pa_cons (pv 0) pa_nil)))
      (pss_cons (ps_set (i := 2) sc_order_of.nd rfl (Or.inl rfl) (pe_op op_rep (pe_lst (pa_cons pe_int pa_nil)) (pe_op op_mul (pv 1) (pe_callB c_len (by rfl) T.n_len PySem.boot_len (pa_cons (pe_ix ix_list (pv 0) pe_int (fun _ _ => rfl)) pa_nil)))))
      (pss_cons (ps_for PassesOwn.never rfl (pi_range1 (by rfl) T.n_range (pa_cons (pv 1) pa_nil)) (pg_name (i := 3) sc_order_of.nd rfl (Or.inl rfl)) (pss_one (ps_asg (pe_ix ix_list (pv 0) (pv 3) (fun _ _ => rfl)) (Er.pg_step (pv 2) (po_some (pv 3)) po_none (po_some (pv 1))))))
      (pss_one (ps_ret (pv 2)))))), ?_⟩
    walk_at "rd"
    rename_i pz Hz ez fz hz
    refine x_ixL (ez.kp _ _ hb nbp) (at_nat (by decide) e0) ?_
    walk_at "rd"
    rw [hl0, hpl, ← Int.natCast_mul]
    refine x_repN (xs := [.int 0]) hz (Nat.lt_of_le_of_lt hnm (by decide)) (Nat.le_trans (show [V.int 0].length * (n * m) ≤ 300000 by rw [show [V.int 0].length = 1 from rfl, Nat.one_mul]; exact hnm) (by decide)) fun t H2 e2 f2 h2 => ?_
    rw [rep_ints, ← ordP_none (n := n) (m := m) (g := g)] at h2
    walk_at "rd"
    refine for_rng (m := (n : Int)) (by omega) (by omega) (fun i σ H' => ∃ v3 : Option V, σ = [some (.ref b), some (.int n), some (.ref t), v3] ∧ Ex H H' ∧ i ≤ n ∧ H' t = some (.lst ((ordP n m g i).map V.int))) ⟨_, rfl, ez.trans e2, Nat.zero_le _, h2⟩ (fun i σ H3 hi h => ?_) (fun σ H3 h => ?_)
    · obtain ⟨v3, rfl, e, hin, ht⟩ := h
      have hin' : i < n := by omega
      obtain ⟨pi, ei, hpi⟩ := (hc.ex e).get (tab_get hin')
      have hb3 := e.kp _ _ hb nbp
      walk_at "rd"
      refine x_ixL hb3 (at_nat (by omega) (by rw [Int.toNat_natCast]; exact ei)) ?_
      walk_at "rd"
      have hne : t ≠ pi := fun et => by
        obtain ⟨pj, ej, hpj⟩ := hc.get (tab_get hin')
        obtain ⟨p', ep, hp'⟩ := hc.get (tab_get hin')
        have : pi = p' := by rw [ei] at ep; exact V.ref.inj (Option.some.inj ep)
        exact NF.new ez f2 _ NB.ints (by rw [et, this]; exact hp')
      refine x_stepS ht hpi hne (by omega) (by omega) ?_ ?_
      · rw [List.length_map, List.length_map, col_len, ordP_len, places_col hin']
        simp [steps]
      · rw [List.length_map, ordP_len, places_col hin', ord_put hin']
        walk_at "rd"
        exact ⟨_, rfl, Er.mutN e (NF.new ez f2) ht NB.ints, by omega, upd_same⟩
    · obtain ⟨v3, rfl, e, hin, ht⟩ := h
      walk_at "rd"
      rw [Int.toNat_natCast, ordP_all n0] at ht
      exact k t H3 e (NF.new ez f2) ht
/-! the columns of an order -/
def sp_columns_of : Sp := fun vs H Q _ => ∃ (b : Addr) (n m : Nat) (h : Int → Int), vs = [.ref b, .int (n : Int)] ∧ Sz n m ∧ H b = some (.lst (((List.range (n * m)).map fun i : Nat => h i).map V.int)) ∧ ∀ t H1, Ex H H1 → ColsAt H1 t (tab n m fun r f => h (r * n + f)) → Q (.ref t) H1
theorem u_columns_of (hz : Sz n m) (hb : H b = some (.lst (((List.range (n * m)).map fun i : Nat => h i).map V.int))) (k : ∀ t H1, Ex H H1 → ColsAt H1 t (tab n m fun r f => h (r * n + f)) → Q (.ref t) H1) : sp_columns_of [.ref b, .int (n : Int)] H Q E := ⟨b, n, m, h, rfl, hz, hb, k⟩
theorem ok_columns_of (T : Txt K w mg a) : FnOk P w K mg base CX0 1 a.a_columns_of a.fd_columns_of ["order", "files"] sp_columns_of := by
  refine T.F_columns_of.ok sc_columns_of (fun vs H Q E h => ?_) (fun cdv A outer s H vs Q E hr h => ?_)
  · obtain ⟨b, n, m, g, rfl, _⟩ := h; rfl
  · obtain ⟨b, n, m, h, rfl, hz, hb, k⟩ := h
    have n0 := hz.n0
    obtain ⟨hn, hm, hm1⟩ := hz
    refine ⟨_, (pss_one (ps_ret (pe_lc (own := [("file", 2)]) rfl sc_columns_of.nd (pi_range1 (by rfl) T.n_range (pa_cons (pv 1) pa_nil)) (blkOk_by (own := [("file", 2)]) (N := ["order", "files", "file"]) (sc := defScope s_columns_of) (by decide +kernel)) (fun _ _ _ _ _ => (pg_name (i := 2) sc_columns_of.nd rfl (Or.inl rfl) (Or.inr rfl))) (fun _ _ _ _ _ => pts_nil) (fun _ _ _ _ _ => (Er.pe_stepLB (pv 0) (po_some (pv 2)) po_none (po_some (pv 1))))))), ?_⟩
    walk_at "rd"
    refine lc_rngC (m := (n : Int)) (by omega) (by omega) (fun i acc H => Cols H acc ((tab n m fun r f => h (r * n + f)).take i) ∧ acc.length = i ∧ i ≤ n ∧ Ow.Refs acc) (fun D _ => ⟨.nil, rfl, Nat.zero_le _, Ow.Refs.nil⟩) (fun i acc y H D hd h => ⟨h.1.upd hd (fun v hv => h.2.2.2 v (List.mem_append_left _ hv)) (fun l hl => tab_ne hm l (List.mem_of_mem_take hl)), h.2⟩) (fun i acc H h => ⟨h.1.nb, Nat.lt_of_le_of_lt (show _ ≤ 3 by omega) (by decide)⟩) (fun x => rfl) (fun i acc H' hi e hI kk k1 => ?_) (fun p ys H2 e hp h2 hI => ?_)
    · have hin : i < n := by omega
      have hb' := e.kp _ _ hb NB.ints
      walk_at "rd"
      refine x_stepK hb' (fun e => by injection e with e; omega) fun p2 H3 e3 f3 h3 => ?_
      rw [cols_of hin] at h3
      refine k1 _ _ e3 ⟨?_, by simp; omega, by omega, ?_⟩
      · rw [List.take_add_one, tab_get hin]
        exact (hI.1.ex e3).one h3
      · intro v hv
        rcases List.mem_append.mp hv with hv | hv
        · exact hI.2.2.2 v hv
        · exact ⟨p2, by simpa using hv⟩
    · have := hI.1
      rw [Int.toNat_natCast, List.take_of_length_le (by rw [tab_len]; exact Nat.le_refl _)] at this
      walk_at "rd"
      exact k p H2 e ⟨ys, h2, this⟩
end
end My

set_option Elab.async false
set_option linter.all false
set_option maxRecDepth 100000
set_option maxHeartbeats 8000000
namespace My
open PySem PySem.Spec PyProof.Rows L2 Sx
local macro_rules | `(tactic| walk_at "nb") => `(tactic| first | exact NB.tup | exact NB.ints | exact NB.len (of_decide_eq_true rfl) | exact NB.at0b rfl | exact NB.at3b rfl | exact NB.ins | exact NB.own | exact NB.frz | exact NB.refs (by assumption) | assumption)
local macro_rules | `(tactic| walk_at "ne") => `(tactic| first | assumption | exact Ne.symm (by assumption) | exact ne_of_none (by assumption) (by assumption) | exact Ne.symm (ne_of_none (by assumption) (by assumption)))
local macro_rules | `(tactic| walk_at "hk") => `(tactic| first
  | assumption
  | exact upd_same
  | (refine' (upd_ne ?hkne).trans ?hkq; (case hkne => walk_at "ne"); (case hkq => walk_at "hk"))
  | (refine' Ex.kp (by assumption) _ _ ?hkq ?hkn; (case hkq => walk_at "hk"); (case hkn => walk_at "nb")))
local macro_rules | `(tactic| walk_at "rd1") => `(tactic| first
  | ((with_reducible refine' x_var ?hx ?_); (case hx => exact rfl))
  | with_reducible refine x_c ?_
  | with_reducible refine x_op ?_
  | with_reducible refine x_un ?_
  | with_reducible refine x_I0 ?_
  | with_reducible refine x_U ?_
  | ((with_reducible refine x_I ?hc ?_); (case hc => first | exact (by decide : (0 : Int) < _) | (show (0 : Int) < _; omega) | (show CMul _ _; first | exact .inl ⟨by omega, by omega⟩ | exact .inr ⟨by omega, by omega⟩) | (show CDiv _ _; exact ⟨by omega, by omega⟩) | (show CDivW _ _; exact wide_div (b := 200) (by omega) (by assumption) (by decide) (by decide)) | (show CDivW _ _; exact wide_div (b := 31) (by omega) (by omega) (by decide) (by decide))))
  | with_reducible refine x_EqI ?_
  | with_reducible refine x_NeI ?_
  | ((with_reducible refine x_EqSt ?h ?_); (case h => decide +kernel))
  | ((with_reducible refine x_EqSf ?h ?_); (case h => decide +kernel))
  | ((with_reducible refine x_NeSt ?h ?_); (case h => decide +kernel))
  | ((with_reducible refine x_NeSf ?h ?_); (case h => decide +kernel))
  | with_reducible refine x_EqS ?_
  | with_reducible refine x_NeS ?_
  | ((with_reducible refine' x_ixL ?hq ?hi ?_); (case hq => walk_at "hk"); (case hi => first | exact rfl | assumption))
  | ((with_reducible refine' x_ixT ?hq ?hi ?_); (case hq => walk_at "hk"); (case hi => first | exact rfl | assumption))
  | with_reducible refine x_chain ?_
  | with_reducible refine x_tup ?_
  | with_reducible refine x_lst ?_
  | ((with_reducible refine x_lenNew ?hl ?_); (case hl => exact Nat.le_of_ble_eq_true rfl); intro _ _ _ _ _)
  | ((with_reducible refine x_new ?_); intro _ _ _ _ _)
  | with_reducible refine x_sl ?_
  | with_reducible refine x_noPart ?_
  | with_reducible refine x_part ?_
  | with_reducible refine x_ex_int ?_
  | with_reducible refine x_ex_bl ?_
  | with_reducible refine x_ex_2 ?_
  | with_reducible refine x_test ?_
  | with_reducible refine x_B ?_
  | with_reducible refine x_and ?_
  | with_reducible refine x_or ?_
  | with_reducible refine x_not ?_
  | with_reducible refine x_andV ?_
  | with_reducible refine x_orV ?_
  | with_reducible refine x_notV ?_
  | with_reducible refine x_ifE ?_
  | with_reducible refine x_iteT ?_
  | with_reducible refine x_iteF ?_
  | ((with_reducible refine x_iteD ?_ ?_) <;> intro _)
  | ((with_reducible refine x_iteN ?_ ?_) <;> intro _)
  | with_reducible refine x_if ?_
  | with_reducible refine x_seq ?_
  | with_reducible refine x_next ?_
  | with_reducible refine x_asg ?_
  | with_reducible refine x_gName ?_
  | ((with_reducible refine' x_gTup ?hq ?hn ?_); (case hq => walk_at "hk"); (case hn => exact rfl))
  | with_reducible refine x_gCons ?_
  | with_reducible refine x_gNil ?_
  | ((with_reducible refine' x_gConsE ?h ?_); (case h => exact rfl))
  | ((with_reducible refine x_gNilE ?h ?_); (case h => exact rfl))
  | with_reducible refine x_ret ?_
  | with_reducible refine x_drop ?_
  | with_reducible refine x_par ?_
  | ((with_reducible refine' x_aug ?hx ?_); (case hx => exact rfl))
  | with_reducible refine x_ipI ?_
  | with_reducible refine x_augS ?_
  | with_reducible refine x_gSub ?_
  | ((with_reducible refine' x_setL ?hq ?hi ?_); (case hq => walk_at "hk"); (case hi => first | exact rfl | assumption))
  | with_reducible refine x_cons ?_
  | with_reducible refine x_nil ?_
  | with_reducible refine x_CB ?_
  | with_reducible refine x_abs ?_
  | with_reducible refine x_intI ?_
  | with_reducible refine x_intB ?_
  | ((with_reducible refine' x_lenL ?hq ?_); (case hq => walk_at "hk"))
  | ((with_reducible refine' x_lenT ?hq ?_); (case hq => walk_at "hk"))
  | ((with_reducible refine x_iteTe ?h ?_); (case h => exact rfl))
  | ((with_reducible refine x_iteFe ?h ?_); (case h => exact rfl))
  | walk_at "use"
  | with_reducible refine x_callS ?_
  | ((with_reducible refine x_lc ?_))
  | ((with_reducible refine x_for ?_))
  | ((with_reducible refine x_iR1 ?_))
  | ((with_reducible refine x_iL ?_))
  | ((with_reducible refine x_iZ ?_))
  | ((with_reducible refine x_yes ?_))
  | ((with_reducible refine' x_NIDt ?hq ?_); (case hq => assumption))
  | ((with_reducible refine' x_NIDf ?hq ?_); (case hq => assumption))
  | ((with_reducible refine' x_IIDf ?hq ?_); (case hq => assumption))
  | ((with_reducible refine' x_IIDt ?hq ?_); (case hq => assumption))
  | ((with_reducible refine' x_ixDs ?hd ?hq ?_); (case hd => assumption); (case hq => assumption))
  | ((with_reducible refine x_InSt ?h ?_); (case h => decide +kernel))
  | ((with_reducible refine x_InSf ?h ?_); (case h => decide +kernel))
  | ((with_reducible refine' x_notInI ?hq ?_); (case hq => walk_at "hk"))
  | ((with_reducible refine' x_inTt ?hq ?hv ?ha ?he ?_); (case hq => walk_at "hk"); (case hv => exact rfl); (case ha => exact rfl); (case he => decide +kernel))
  | ((with_reducible refine' x_inTf ?hq ?hv ?ha ?he ?_); (case hq => walk_at "hk"); (case hv => exact rfl); (case ha => exact rfl); (case he => decide +kernel))
  | ((with_reducible refine' x_slT ?hq ?hw ?_); (case hq => walk_at "hk"); (case hw => with_unfolding_all exact of_decide_eq_true rfl))
  | ((with_reducible refine' x_slL ?hq ?_); (case hq => walk_at "hk"))
  | ((with_reducible refine' x_catT ?hq ?hr ?n1 ?n2 ?hl ?_); (case hq => walk_at "hk"); (case hr => walk_at "hk"); (case n1 => exact List.cons_ne_nil _ _); (case n2 => exact List.cons_ne_nil _ _); (case hl => exact Nat.le_of_ble_eq_true rfl))
  | ((with_reducible refine x_bm ?_))
  | ((with_reducible refine x_lstRg ?_))
  | ((with_reducible refine x_rg1 ?_))
  | ((with_reducible refine And.intro ?h ?_); (case h => exact tyL (by assumption)))
  | dsimp only)
local macro_rules | `(tactic| walk_at "use") => `(tactic| fail)
local macro_rules | `(tactic| walk_at "rd") => `(tactic| repeat' (walk_at "rd1"))
local macro_rules | `(tactic| walk_at "ex") => `(tactic| first | exact Ex.refl _ | assumption | (refine' Ex.trans ?he (by assumption); (case he => walk_at "ex")))
local macro_rules | `(tactic| walk_at "rd1") => `(tactic| first
  | ((with_reducible refine x_iteDf ?h ?_); (case h => exact rfl))
  | ((with_reducible refine x_iteDt ?h ?_); (case h => exact rfl))
  | ((with_reducible refine x_iteNf ?h ?_); (case h => exact rfl))
  | ((with_reducible refine x_iteNt ?h ?_); (case h => exact rfl))
  | ((with_reducible refine x_isiI (r := true) ?h ?_); (case h => decide +kernel))
  | ((with_reducible refine x_isiI (r := false) ?h ?_); (case h => decide +kernel))
  | ((with_reducible refine x_isiS (r := true) ?h ?_); (case h => decide +kernel))
  | ((with_reducible refine x_isiS (r := false) ?h ?_); (case h => decide +kernel))
  | ((with_reducible refine x_isiB (r := true) ?h ?_); (case h => decide +kernel))
  | ((with_reducible refine x_isiB (r := false) ?h ?_); (case h => decide +kernel))
  | ((with_reducible refine' x_isiT (r := true) ?hp ?h ?_); (case hp => walk_at "hk"); (case h => decide +kernel))
  | ((with_reducible refine' x_isiT (r := false) ?hp ?h ?_); (case hp => walk_at "hk"); (case h => decide +kernel))
  | ((with_reducible refine' x_isiL (r := true) ?hp ?h ?_); (case hp => walk_at "hk"); (case h => decide +kernel))
  | ((with_reducible refine' x_isiL (r := false) ?hp ?h ?_); (case hp => walk_at "hk"); (case h => decide +kernel))
  | ((with_reducible refine' x_isi2L ?hp ?hl ?_); (case hp => walk_at "hk"); (case hl => walk_at "hk"))
  | ((with_reducible refine' x_isi2T ?hp ?hl ?_); (case hp => walk_at "hk"); (case hl => walk_at "hk"))
  | ((with_reducible refine' x_tupOfL ?hq ?_); (case hq => walk_at "hk"))
  | ((with_reducible refine' x_tupOfT ?hq ?_); (case hq => walk_at "hk"))
  | ((with_reducible refine x_lenS ?h ?_); (case h => exact Nat.le_of_ble_eq_true rfl))
  | ((with_reducible refine' x_all ?hq ?_); (case hq => walk_at "hk"))
  | with_reducible refine x_lenSet ?_)
local macro_rules | `(tactic| walk_at "rd1") => `(tactic| first
  | with_reducible refine Er.x_iR2 ?_
  | with_reducible refine Er.x_iEn ?_
  | with_reducible refine Er.x_cont ?_
  | ((with_reducible refine Er.x_isBt ?h ?_); (case h => exact rfl))
  | ((with_reducible refine Er.x_isBf ?h ?_); (case h => exact rfl))
  | ((with_reducible refine Er.x_isNBt ?h ?_); (case h => exact rfl))
  | ((with_reducible refine Er.x_isNBf ?h ?_); (case h => exact rfl))
  | with_reducible refine Er.x_isB ?_
  | with_reducible refine Er.x_isNB ?_)

open Cl
local macro_rules | `(tactic| walk_at "nb") => `(tactic| first | exact NB.ints | assumption | (refine Ow.Refs.nb ?_; assumption))
local macro_rules | `(tactic| walk_at "rd1") => `(tactic| first
  | with_reducible refine Er.x_stepL ?_
  | with_reducible refine Er.x_gStep ?_
  | with_reducible refine Er.x_iR3 ?_
  | with_reducible refine Er.x_lc2 ?_
  | ((with_reducible refine' x_listOfL ?h ?_); (case h => walk_at "hk")))
section
variable {P : Program} {w : World} {K : PySem.W.Frag} {mg : Str → Option Value} {base : Heap} {a : Ad} {H H1 : Hp} {Q : VK} {E : XK} {p b c t s dx : Addr} {fl gl : Int} {xs ps : List V} {q : C} {qs us : List C} {n m : Nat} {g : Int → Int → Int} {ls : List (List Int)} {h : Int → Int}
open Er
theorem rgC_run (hz : Sz n m) : RgC 0 ((n * m : Nat) : Int) (m : Int) n := by
  obtain ⟨hn, hm, hm1⟩ := hz
  have hnm : n * m ≤ 300000 := by rcases hn with rfl | rfl <;> omega
  have rs : Builtin.Range.rangeSize 0 ((n * m : Nat) : Int) (m : Int) = n := by
    unfold Builtin.Range.rangeSize
    rw [if_pos (show (m : Int) > 0 by omega), if_pos (by rcases hn with rfl | rfl <;> omega)]
    rcases hn with rfl | rfl
    · rw [show ((2 * m : Nat) : Int) - 0 - 1 = (m - 1) + m * 1 by omega, Int.add_mul_ediv_left _ _ (by omega), Int.ediv_eq_zero_of_lt (by omega) (by omega)]; rfl
    · rw [show ((3 * m : Nat) : Int) - 0 - 1 = (m - 1) + m * 2 by omega, Int.add_mul_ediv_left _ _ (by omega), Int.ediv_eq_zero_of_lt (by omega) (by omega)]; rfl
  refine ⟨by omega, by omega, ?_, rs⟩
  unfold Builtin.Range.small
  rw [rs]
  have mp : (m : Int) > 0 := by omega
  simp only [Builtin.Range.rangeFitsLong, Bool.and_eq_true, Bool.or_eq_true, decide_eq_true_eq, beq_iff_eq, mp, if_true]
  rcases hn with rfl | rfl <;> refine ⟨⟨⟨⟨?_, ?_⟩, ⟨?_, ?_⟩⟩, ?_⟩, .inr ?_⟩ <;> omega
theorem ok_behind_halve (T : Txt K w mg a) : FnOk P w K mg base CX0 2 a.a_behind_halve a.fd_behind_halve ["columns", "call"] (sp_beh fun q => q = .halve) := by
  refine T.F_behind_halve.ok sc_behind_halve (fun vs H Q E h => ?_) (fun cdv A outer s H vs Q E hr h => ?_)
  · obtain ⟨b, p, q, n, m, g, rfl, _⟩ := h; rfl
  · obtain ⟨b, p, q, n, m, g, rfl, hp, rfl, ho, hz, ⟨ps, hb, hc⟩, k⟩ := h
    have G_order_of := ok_order_of (P := P) (base := base) T
    have rg := rgC_run hz
    have hz0 := hz
    obtain ⟨hn, hm, hm1⟩ := hz
    have hnm := hz0.lt
    have nbp := hc.nb
    obtain ⟨p0, e0, h0⟩ := hc.get (tab_get (show 0 < n by omega))
    have hl0 : ((((col m g ((0 : Nat) : Int)).map V.int).length : Nat) : Int) = m := by rw [List.length_map, col_len]
    refine ⟨_, (pss_cons (ps_set (i := 2) sc_behind_halve.nd rfl (Or.inr rfl) (pe_call G_order_of (hr.mono (by decide)) (by rfl) T.m_order_of T.k_order_of T.b_order_of .nil pass0 (pa_cons (pv 0) pa_nil)))
      (pss_cons (ps_set (i := 3) sc_behind_halve.nd rfl (Or.inr rfl) (pe_callB c_len (by rfl) T.n_len PySem.boot_len (pa_cons (pe_ix ix_list (pv 0) pe_int (fun _ _ => rfl)) pa_nil)))
      (pss_one (ps_ret (pe_lc (own := [("begin", 4)]) rfl sc_behind_halve.nd (pi_range3 (by rfl) T.n_range (pa_cons pe_int (pa_cons (pe_callB c_len (by rfl) T.n_len PySem.boot_len (pa_cons (pv 2) pa_nil)) (pa_cons (pv 3) pa_nil)))) (blkOk_by (own := [("begin", 4)]) (N := ["columns", "call", "order", "rows", "begin"]) (sc := defScope s_behind_halve) (by decide +kernel)) (fun _ _ _ _ _ => (pg_name (i := 4) sc_behind_halve.nd rfl (Or.inl rfl) (Or.inr rfl))) (fun _ _ _ _ _ => pts_nil) (fun _ _ _ _ _ => (pe_slice Ow.sl_listB (pv 2) (po_some (pv 4)) (po_some (pe_op op_add (pv 4) (pv 3)))))))))), ?_⟩
    walk_at "rd"
    refine u_order_of hz0 ⟨ps, hb, hc⟩ fun t H1 e1 f1 h1 => ?_
    walk_at "rd"
    refine x_ixL (e1.kp _ _ hb nbp) (at_nat (by decide) e0) ?_
    walk_at "rd"
    rw [hl0, show ((((ord n m g).map V.int).length : Nat) : Int) = ((n * m : Nat) : Int) by rw [List.length_map, ord_len]]
    have bt := beh_halve (n := n) (m := m) (g := g)
    have tn := tab_ne (n := n) (g := mvg .halve n m g) hm
    rw [bt] at tn
    refine lc_rng3C rg (fun i acc H => Cols H acc (((List.range n).map fun i => ((ord n m g).drop (i * m)).take m).take i) ∧ acc.length = i ∧ i ≤ n ∧ Ow.Refs acc) (fun D _ => ⟨.nil, rfl, Nat.zero_le _, Ow.Refs.nil⟩) (fun i acc y H D hd h => ⟨h.1.upd hd (fun v hv => h.2.2.2 v (List.mem_append_left _ hv)) (fun l hl => tn l (List.mem_of_mem_take hl)), h.2⟩) (fun i acc H h => ⟨h.1.nb, Nat.lt_of_le_of_lt (show _ ≤ 3 by omega) (by decide)⟩) (fun x => rfl) (fun i acc H' hi e hI kk k1 => ?_) (fun p ys H2 e hp h2 hI => ?_)
    · have h1' := e.kp _ _ h1 NB.ints
      have cut : ∀ xs : List V, i * m ≤ xs.length → cutV xs (some (0 + (i : Nat) * (m : Int))) (some (0 + (i : Nat) * (m : Int) + (m : Int))) = (xs.drop (i * m)).take m := fun xs hx => by
        rw [show (0 : Int) + (i : Nat) * (m : Int) = ((i * m : Nat) : Int) by simp, show ((i * m : Nat) : Int) + (m : Int) = ((i * m + m : Nat) : Int) by omega, cut_mid hx, show i * m + m - i * m = m by omega]
      have rl := run_lt (r := 0) hi hm
      walk_at "rd"
      rename_i p3 H3 e3 f3 h3
      rw [cut _ (by rw [List.length_map, ord_len]; omega), ← List.map_drop, ← List.map_take] at h3
      refine k1 _ _ e3 ⟨?_, by simp; omega, by omega, ?_⟩
      · rw [List.take_add_one, List.getElem?_map, List.getElem?_range hi]
        exact (hI.1.ex e3).one h3
      · intro v hv
        rcases List.mem_append.mp hv with hv | hv
        · exact hI.2.2.2 v hv
        · exact ⟨p3, by simpa using hv⟩
    · have := hI.1
      rw [List.take_of_length_le (by simp), ← bt] at this
      walk_at "rd"
      exact k p H2 (e1.trans e) ⟨ys, h2, this⟩
theorem ok_behind_pair (T : Txt K w mg a) : FnOk P w K mg base CX0 2 a.a_behind_pair a.fd_behind_pair ["columns", "call"] (sp_beh fun q => q = .pair) := by
  refine T.F_behind_pair.ok sc_behind_pair (fun vs H Q E h => ?_) (fun cdv A outer s H vs Q E hr h => ?_)
  · obtain ⟨b, p, q, n, m, g, rfl, _⟩ := h; rfl
  · obtain ⟨b, p, q, n, m, g, rfl, hp, rfl, ho, hz, ⟨ps, hb, hc⟩, k⟩ := h
    have G_columns_of := ok_columns_of (P := P) (base := base) T
    have hnm := hz.lt
    have nbp := hc.nb
    have hpl : ps.length = n := by rw [hc.len, tab_len]
    refine ⟨_, (pss_one (ps_ret (pe_call G_columns_of (hr.mono (by decide)) (by rfl) T.m_columns_of T.k_columns_of T.b_columns_of .nil pass0 (pa_cons (pe_lc2 (own := [("column", 2), ("pupil", 3)]) (vs1 := [3]) rfl sc_behind_pair.nd (pi_list (pv 0)) (blkOk_by (own := [("column", 2), ("pupil", 3)]) (N := ["columns", "call", "column", "pupil"]) (sc := defScope s_behind_pair) (by decide +kernel)) (by decide) (fun _ _ _ _ _ => (pg_name (i := 2) sc_behind_pair.nd rfl (Or.inl rfl) (Or.inr rfl))) (fun _ _ _ _ _ => pts_nil) (fun _ _ _ _ _ => (Er.pi_listB (pv 2))) (fun _ _ _ _ _ => (pg_name (i := 3) sc_behind_pair.nd rfl (Or.inl rfl) (Or.inr rfl))) (fun _ _ _ _ _ => pts_nil) (fun _ _ _ _ _ => (pv 3))) (pa_cons (pe_callB c_len (by rfl) T.n_len PySem.boot_len (pa_cons (pv 0) pa_nil)) pa_nil))))), ?_⟩
    walk_at "rd"
    refine lc2_flat hb nbp hc.len (fun h => hc.getV h) (by rw [flat_len]; exact Nat.lt_of_le_of_lt hnm (by decide)) (fun _ => rfl) (fun _ => rfl) (fun _ _ => rfl) (fun _ _ => rfl) fun p2 H2 e2 f2 h2 => ?_
    rw [flat_is hz.2.1] at h2
    walk_at "rd"
    rw [hpl]
    refine u_columns_of (h := fun i => g (i % m) (i / m)) hz h2 fun t H3 e3 h3 => ?_
    walk_at "rd"
    exact k t H3 (by walk_at "ex") h3
/-! fill -/
theorem Cols.setIn {l : List Int} (h : Cols H ps ls) (nd : ps.Nodup) : ∀ {i : Nat}, ps[i]? = some (.ref p) → Cols (L2.upd H p (.lst (l.map V.int))) ps (ls.set i l) := by
  induction h with
  | nil => intro i h; simp at h
  | @cons p0 l0 ps ls h0 t ih =>
    intro i hi
    have nd' := List.nodup_cons.mp nd
    cases i with
    | zero =>
      have e : p0 = p := V.ref.inj (Option.some.inj hi)
      subst e
      refine .cons upd_same ?_
      clear ih hi nd h0
      have nd2 := nd'.1
      clear nd'
      induction t with
      | nil => exact .nil
      | cons h _ ih => exact .cons (by rw [upd_ne (fun e => nd2 (by rw [e]; exact .head _))]; exact h) (ih fun h => nd2 (.tail _ h))
    | succ i =>
      have hi' : ps[i]? = some (.ref p) := by simpa using hi
      refine .cons ?_ (ih nd'.2 hi')
      rw [upd_ne (fun e => nd'.1 (by rw [e]; exact List.mem_of_getElem? hi'))]
      exact h0
theorem Cols.move {H4 H6 : Hp} {o o1 : HO} (h : Cols (L2.upd H4 p o) ps ls) (e : Ex (L2.upd H4 p o1) H6) : Cols (L2.upd H6 p o) ps ls := by
  induction h with
  | nil => exact .nil
  | @cons p0 l0 ps ls h0 t ih =>
    refine .cons ?_ ih
    by_cases c : p0 = p
    · subst c
      rw [upd_same] at h0 ⊢
      exact h0
    · rw [upd_ne c] at h0 ⊢
      exact e.kp _ _ (by rw [upd_ne c]; exact h0) NB.ints
theorem putV_ints : ∀ (ks : List Nat) (l l' : List Int), ∃ X : List Int, putV (l.map V.int) ks (l'.map V.int) = X.map V.int
  | [], l, _ => ⟨l, rfl⟩
  | _ :: _, l, [] => ⟨l, rfl⟩
  | k :: ks, l, y :: l' => by
    have := putV_ints ks (l.set k y) l'
    rw [List.map_set] at this
    exact this
theorem places_evens {m : Nat} : places m none none (some 2) = steps 0 2 ((m + 1) / 2) := by
  have := places_none (n := m) (c := 2) (by decide)
  rw [show ((2 : Nat) : Int) = 2 from rfl] at this
  have h2 := places_up (n := m) (c := 2) 0 (by decide) (Nat.zero_le _)
  rw [show ((2 : Nat) : Int) = 2 from rfl] at h2
  rw [this, h2, show m - 0 + 2 - 1 = m + 1 by omega]
  rfl
theorem places_odds {m : Nat} (hm : 0 < m) : places m (some 1) none (some 2) = steps 1 2 (m / 2) := by
  have h2 : places m (some 1) none (some 2) = _ := places_up (n := m) (c := 2) 1 (by decide) hm
  rw [h2, show m - 1 + 2 - 1 = m by omega]
  rfl
/-- so far filled -/
def part (n m : Nat) (g : Int → Int → Int) (j : Nat) : Int → Int → Int := fun r f => if f < j then mvg .fill n m g r f else g r f
theorem part_set {i : Nat} (hi : i < n) : (tab n m (part n m g i)).set i (col m (mvg .fill n m g) i) = tab n m (part n m g (i + 1)) := by
  rw [tab_set hi]
  refine tab_congr fun r f _ _ _ _ => ?_
  unfold part
  by_cases c : f = i
  · rw [if_pos c, if_pos (by omega)]
  · rw [if_neg c]
    by_cases d : f < i
    · rw [if_pos d, if_pos (by omega)]
    · rw [if_neg d, if_neg (by omega)]
theorem part_col {i : Nat} : col m (part n m g i) (i : Int) = col m g i := col_congr fun r _ _ => if_neg (Int.lt_irrefl _)
theorem ok_behind_fill (T : Txt K w mg a) : FnOk P w K mg base CX0 1 a.a_behind_fill a.fd_behind_fill ["columns", "call"] (sp_beh fun q => q = .fill) := by
  refine T.F_behind_fill.ok sc_behind_fill (fun vs H Q E h => ?_) (fun cdv A outer s H vs Q E hr h => ?_)
  · obtain ⟨b, p, q, n, m, g, rfl, _⟩ := h; rfl
  · obtain ⟨b, p, q, n, m, g, rfl, hp, rfl, ho, hz, ⟨ps, hb, hc⟩, k⟩ := h
    obtain ⟨hn, hm, hm1⟩ := hz
    have nbp := hc.nb
    have hpl : ps.length = n := by rw [hc.len, tab_len]
    obtain ⟨p0, e0, h0⟩ := hc.get (tab_get (show 0 < n by omega))
    have hl0 : ((((col m g ((0 : Nat) : Int)).map V.int).length : Nat) : Int) = m := by rw [List.length_map, col_len]
    refine ⟨_, (pss_cons (ps_set (i := 2) sc_behind_fill.nd rfl (Or.inl rfl) (pe_op op_fdiv (pe_op op_add (pe_callB c_len (by rfl) T.n_len PySem.boot_len (pa_cons (pe_ix ix_list (pv 0) pe_int (fun _ _ => rfl)) pa_nil)) pe_int) pe_int))
      (pss_cons (ps_setLc (i := 3) (own := [("column", 5)]) rfl sc_behind_fill.nd rfl rfl (sw_true rfl rfl rfl (by decide +kernel)) (pi_list (pv 0)) (blkOk_by (own := [("column", 5)]) (N := ["columns", "call", "evens", "told", "file", "column"]) (sc := defScope s_behind_fill) (by decide +kernel)) (fun _ _ _ _ _ => (pg_name (i := 5) sc_behind_fill.nd rfl (Or.inl rfl) (Or.inr rfl))) (fun _ _ _ _ _ => pts_nil) (fun _ _ _ _ _ => (pe_callTy Ow.c_listOfB (by rfl) T.n_list (by decide +kernel) (pa_cons (pv 5) pa_nil))))
      (pss_cons (ps_for PassesOwn.never rfl (pi_range1 (by rfl) T.n_range (pa_cons (pe_callB c_len (by rfl) T.n_len PySem.boot_len (pa_cons (pv 0) pa_nil)) pa_nil)) (pg_name (i := 4) sc_behind_fill.nd rfl (Or.inl rfl)) (pss_cons (ps_asg (pe_slice sl_list (pe_ix ix_list (pv 0) (pv 4) (fun _ _ => rfl)) po_none (po_some (pv 2))) (Er.pg_step (pe_ix ix_list (pv 3) (pv 4) (fun _ _ => rfl)) po_none po_none (po_some pe_int)))
      (pss_one (ps_asg (pe_slice sl_list (pe_ix ix_list (pv 0) (pv 4) (fun _ _ => rfl)) (po_some (pv 2)) po_none) (Er.pg_step (pe_ix ix_list (pv 3) (pv 4) (fun _ _ => rfl)) (po_some pe_int) po_none (po_some pe_int))))))
      (pss_one (ps_ret (pv 3)))))), ?_⟩
    walk_at "rd"
    refine x_ixL hb (at_nat (by decide) e0) ?_
    walk_at "rd"
    rw [hl0, show ((m : Int) + 1) / 2 = (((m + 1) / 2 : Nat) : Int) by omega]
    have tn := tab_ne (n := n) (g := g) hm
    refine lc_lstC hb nbp (fun i acc H' => Cols H' acc ((tab n m g).take i) ∧ acc.length = i ∧ i ≤ n ∧ Ow.Refs acc ∧ acc.Nodup ∧ ∀ p, V.ref p ∈ acc → NF H p) (fun D _ => ⟨.nil, rfl, Nat.zero_le _, Ow.Refs.nil, List.nodup_nil, fun _ h => nomatch h⟩) (fun i acc y H D hd h => ⟨h.1.upd hd (fun v hv => h.2.2.2.1 v (List.mem_append_left _ hv)) (fun l hl => tn l (List.mem_of_mem_take hl)), h.2⟩) (fun i acc H h => ⟨h.1.nb, Nat.lt_of_le_of_lt (show _ ≤ 3 by omega) (by decide)⟩) (fun x => rfl) (fun i x acc H' hx e hI kk k1 => ?_) (fun t ys H2 e hp h2 hI => ?_)
    · obtain ⟨p, l, rfl, hl', hp⟩ := (hc.ex e).getV hx
      have hi := (List.getElem?_eq_some_iff.mp hx).1
      walk_at "rd"
      rename_i p2 H4 e4 f4 h4
      have fr : V.ref p2 ∉ acc := fun hm => by
        obtain ⟨j, hj⟩ := List.getElem?_of_mem hm
        obtain ⟨p', l', e', _, hp'⟩ := hI.1.getV hj
        cases e'
        rw [f4] at hp'
        cases hp'
      refine k1 _ _ e4 ⟨?_, by simp; omega, by omega, ?_, ?_, ?_⟩
      · rw [List.take_add_one, hl']
        exact (hI.1.ex e4).one h4
      · intro v hv
        rcases List.mem_append.mp hv with hv | hv
        · exact hI.2.2.2.1 v hv
        · exact ⟨p2, by simpa using hv⟩
      · exact List.nodup_append.mpr ⟨hI.2.2.2.2.1, by simp, fun x hx y hy e => by rw [List.mem_singleton.mp hy] at e; exact fr (e ▸ hx)⟩
      · intro q hq
        rcases List.mem_append.mp hq with hq | hq
        · exact hI.2.2.2.2.2 q hq
        · have : q = p2 := by simpa using hq
          rw [this]
          exact NF.new e f4
    · obtain ⟨ct, yl, _, yr, nd, nf⟩ := hI
      rw [hpl, List.take_of_length_le (by rw [tab_len]; exact Nat.le_refl _)] at ct
      rw [hpl] at yl
      walk_at "rd"
      rw [hpl]
      have c0 : tab n m (part n m g 0) = tab n m g := tab_congr fun r f _ _ f0 _ => if_neg (by omega)
      rw [← c0] at ct
      refine for_rng (m := (n : Int)) (by omega) (by omega) (fun i σ H' => ∃ v4 v5 : Option V, σ = [some (.ref b), some (.ref p), some (.int (((m + 1) / 2 : Nat) : Int)), some (.ref t), v4, v5] ∧ Ex H H' ∧ H' t = some (.lst ys) ∧ i ≤ n ∧ Cols H' ys (tab n m (part n m g i))) ⟨_, _, rfl, e, h2, Nat.zero_le _, ct⟩ (fun i σ H3 hi h => ?_) (fun σ H3 h => ?_)
      · obtain ⟨v4, v5, rfl, e3, ht, hin, c3⟩ := h
        have hin' : i < n := by omega
        obtain ⟨pi, ei, hpi⟩ := (hc.ex e3).get (tab_get hin')
        obtain ⟨pt, et, hpt⟩ := c3.get (tab_get hin')
        rw [part_col] at hpt
        have hb3 := e3.kp _ _ hb nbp
        have nbt := c3.nb
        have at1 : atI ps (i : Int) = some (.ref pi) := at_nat (by omega) (by rw [Int.toNat_natCast]; exact ei)
        have at2 : atI ys (i : Int) = some (.ref pt) := at_nat (by omega) (by rw [Int.toNat_natCast]; exact et)
        walk_at "rd"
        rename_i pa H4 e4 f4 h4
        rw [Ow.cut_take, ← List.map_take] at h4
        have hpt4 := e4.kp _ _ hpt NB.ints
        have ne4 : pt ≠ pa := ne_of_none hpt f4
        refine x_stepS hpt4 h4 ne4 (by decide) (by decide) (by rw [List.length_map, List.length_map, List.length_take, col_len, places_evens]; simp [steps]; omega) ?_
        rw [List.length_map, col_len, places_evens]
        have hpi4 := e4.kp _ _ hpi NB.ints
        have nei : pt ≠ pi := fun ee => by
          obtain ⟨pj, ej, hpj⟩ := hc.get (tab_get hin')
          have : pi = pj := by rw [ei] at ej; exact V.ref.inj (Option.some.inj ej)
          exact nf pt (List.mem_of_getElem? et) _ NB.ints (by rw [ee, this]; exact hpj)
        have net : pt ≠ t := ne_cols (H0 := H3) hpt ht c3.refs (col_ne hm)
        generalize hX : putV ((col m g i).map V.int) (steps 0 2 ((m + 1) / 2)) (((col m g i).take ((m + 1) / 2)).map V.int) = X
        have hXl : X.length = m := by rw [← hX, putV_length, List.length_map, col_len]
        have ex5 : Ex H (upd H4 pt (.lst X)) := Er.mutN (e3.trans e4) (nf pt (List.mem_of_getElem? et)) hpt4 NB.ints
        have hb5 : upd H4 pt (.lst X) b = some (.lst ps) := ex5.kp _ _ hb nbp
        have hpi5 : upd H4 pt (.lst X) pi = some (.lst ((col m g i).map V.int)) := by rw [upd_ne nei.symm]; exact hpi4
        have ht5 : upd H4 pt (.lst X) t = some (.lst ys) := by rw [upd_ne net.symm]; exact e4.kp _ _ ht nbt
        have hpt5 : upd H4 pt (.lst X) pt = some (.lst X) := upd_same
        have c5 := (c3.ex e4)
        generalize hH5 : upd H4 pt (.lst X) = H5 at ex5 hb5 hpi5 ht5 hpt5 ⊢
        walk_at "rd"
        rename_i pb H6 e6 f6 h6
        rw [Ow.cut_drop, ← List.map_drop] at h6
        obtain ⟨X', hX'⟩ : ∃ X' : List Int, X = X'.map V.int := by rw [← hX]; exact putV_ints _ _ _
        have nbX : NB (.lst X) := by rw [hX']; exact NB.ints
        have hpt6 := e6.kp _ _ hpt5 nbX
        have ne6 : pt ≠ pb := ne_of_none hpt5 f6
        refine x_stepS hpt6 h6 ne6 (by decide) (by decide) (by rw [List.length_map, List.length_drop, col_len, hXl, places_odds hm]; simp [steps]; omega) ?_
        rw [hXl, places_odds hm, ← hX, fill_put (n := n) hm]
        have ht6 := e6.kp _ _ ht5 nbt
        refine ⟨_, _, rfl, Er.mutN (ex5.trans e6) (nf pt (List.mem_of_getElem? et)) hpt6 nbX, by rw [upd_ne net.symm]; exact ht6, by omega, ?_⟩
        rw [← part_set hin']
        rw [← hH5] at e6
        exact (c5.setIn nd et).move e6
      · obtain ⟨v4, v5, rfl, e3, ht, hin, c3⟩ := h
        walk_at "rd"
        rw [Int.toNat_natCast] at c3
        have cn : tab n m (part n m g n) = tab n m (mvg .fill n m g) := tab_congr fun r f _ _ _ f1 => if_pos (by omega)
        rw [cn] at c3
        exact k t H3 e3 ⟨ys, ht, c3⟩
/-! calls, one behind another -/
/-- who stands where behind calls -/
def ledg (qs : List C) (n m : Nat) (g : Int → Int → Int) : Int → Int → Int := qs.foldl (fun g q => mvg q n m g) g
theorem ledg_snoc : ledg (qs ++ [q]) n m g = mvg q n m (ledg qs n m g) := by
  unfold ledg
  rw [List.foldl_append]
  rfl
theorem act (T : Txt K w mg a) (q : C) : ∃ (f : Addr) (W : C → Prop), PySem.W.nsIn K a.d_ACTIONS q.word = some (some (.ref f)) ∧ HeldK P w K mg base 2 f (sp_beh W) ∧ W q := by
  cases q with
  | all k => exact ⟨_, _, T.v_ACTIONS_all, ⟨_, _, _, by decide, ok_behind_all T, T.k_behind_all, T.b_behind_all⟩, ⟨_, rfl⟩⟩
  | up f k => exact ⟨_, _, T.v_ACTIONS_up, ⟨_, _, _, by decide, ok_behind_up T, T.k_behind_up, T.b_behind_up⟩, ⟨_, _, rfl⟩⟩
  | swap f g => exact ⟨_, _, T.v_ACTIONS_swap, ⟨_, _, _, by decide, ok_behind_swap T, T.k_behind_swap, T.b_behind_swap⟩, ⟨_, _, rfl⟩⟩
  | wheel f g k => exact ⟨_, _, T.v_ACTIONS_wheel, ⟨_, _, _, by decide, ok_behind_wheel T, T.k_behind_wheel, T.b_behind_wheel⟩, ⟨_, _, _, rfl⟩⟩
  | about => exact ⟨_, _, T.v_ACTIONS_about, ⟨_, _, _, by decide, ok_behind_about T, T.k_behind_about, T.b_behind_about⟩, rfl⟩
  | front f g => exact ⟨_, _, T.v_ACTIONS_front, ⟨_, _, _, by decide, ok_behind_front T, T.k_behind_front, T.b_behind_front⟩, ⟨_, _, rfl⟩⟩
  | halve => exact ⟨_, _, T.v_ACTIONS_halve, ⟨_, _, _, by decide, ok_behind_halve T, T.k_behind_halve, T.b_behind_halve⟩, rfl⟩
  | pair => exact ⟨_, _, T.v_ACTIONS_pair, ⟨_, _, _, by decide, ok_behind_pair T, T.k_behind_pair, T.b_behind_pair⟩, rfl⟩
  | others => exact ⟨_, _, T.v_ACTIONS_others, ⟨_, _, _, by decide, ok_behind_others T, T.k_behind_others, T.b_behind_others⟩, rfl⟩
  | fill => exact ⟨_, _, T.v_ACTIONS_fill, ⟨_, _, _, by decide, ok_behind_fill T, T.k_behind_fill, T.b_behind_fill⟩, rfl⟩
theorem word_at : atI q.vals 0 = some (.str q.word) := by cases q <;> rfl
def sp_columns_led : Sp := fun vs H Q _ => ∃ (b c : Addr) (xs : List V) (qs : List C) (n m : Nat) (g : Int → Int → Int), vs = [.ref b, .ref c] ∧ H c = some (.lst xs) ∧ Cls H xs qs ∧ (∀ q ∈ qs, q.ok n) ∧ Sz n m ∧ ColsAt H b (tab n m g) ∧ ∀ t H1, Ex H H1 → ColsAt H1 t (tab n m (ledg qs n m g)) → Q (.ref t) H1
theorem u_columns_led (hc : H c = some (.lst xs)) (hcl : Cls H xs qs) (ho : ∀ q ∈ qs, q.ok n) (hz : Sz n m) (hb : ColsAt H b (tab n m g)) (k : ∀ t H1, Ex H H1 → ColsAt H1 t (tab n m (ledg qs n m g)) → Q (.ref t) H1) : sp_columns_led [.ref b, .ref c] H Q E := ⟨b, c, xs, qs, n, m, g, rfl, hc, hcl, ho, hz, hb, k⟩
theorem ok_columns_led (T : Txt K w mg a) : FnOk P w K mg base CX0 3 a.a_columns_led a.fd_columns_led ["columns", "calls"] sp_columns_led := by
  refine T.F_columns_led.ok sc_columns_led (fun vs H Q E h => ?_) (fun cdv A outer s H vs Q E hr h => ?_)
  · obtain ⟨b, c, xs, qs, n, m, g, rfl, _⟩ := h; rfl
  · obtain ⟨b, c, xs, qs, n, m, g, rfl, hc, hcl, ho, hz, hb, k⟩ := h
    have nbx := hcl.nb
    have D := T.d_ACTIONS
    refine ⟨_, (pss_cons (ps_for PassesOwn.never rfl (pi_list (pv 1)) (pg_name (i := 2) sc_columns_led.nd rfl (Or.inl rfl)) (pss_cons (ps_set (i := 3) sc_columns_led.nd rfl (Or.inl rfl) (pe_ix ix_kdict (pe_glob (v := .ref a.d_ACTIONS) (by rfl) T.g_ACTIONS rfl) (pe_ix ix_tup (pv 2) pe_int (fun _ _ => rfl)) (fun _ _ => rfl)))
      (pss_one (ps_set (i := 0) sc_columns_led.nd rfl (Or.inl rfl) (Er.pe_callH (k := 2) (i := 3) (hr.mono (by decide)) rfl (.inl rfl) (pa_cons (pv 0) (pa_cons (pv 2) pa_nil)))))))
      (pss_one (ps_ret (pv 0)))), ?_⟩
    walk_at "rd"
    refine for_lst (xs := xs) hc (fun i σ H' => ∃ (ci : Addr) (v2 v3 : Option V), σ = [some (.ref ci), some (.ref c), v2, v3] ∧ Ex H H' ∧ ColsAt H' ci (tab n m (ledg (qs.take i) n m g))) ⟨b, _, _, rfl, Ex.refl _, hb⟩ (fun i σ H' _ h => ?_) (fun i x σ H' hx h => ?_) (fun σ H' h => ?_)
    · obtain ⟨_, _, _, _, e, _⟩ := h
      exact e.kp _ _ hc nbx
    · obtain ⟨ci, v2, v3, rfl, e, hci⟩ := h
      obtain ⟨p, q, rfl, hq, hp⟩ := (hcl.ex e).get hx
      obtain ⟨f, W, hns, hh, hw⟩ := act (P := P) (base := base) T q
      walk_at "rd"
      refine x_ixT hp word_at ?_
      walk_at "rd"
      refine x_ixDr D hns ?_
      walk_at "rd"
      refine x_callH (sp_beh W) rfl hh ?_
      walk_at "rd"
      refine u_beh hp hw (ho q (List.mem_of_getElem? hq)) hz hci fun t H3 e3 h3 => ?_
      walk_at "rd"
      refine ⟨t, _, _, rfl, e.trans e3, ?_⟩
      rw [List.take_add_one, hq, show (some q).toList = [q] from rfl, ledg_snoc]
      exact h3
    · obtain ⟨ci, v2, v3, rfl, e, hci⟩ := h
      walk_at "rd"
      rw [hcl.len, List.take_of_length_le (Nat.le_refl _)] at hci
      exact k ci H' e hci
/-! the first columns -/
def num0 (n : Nat) : Int → Int → Int := fun r f => r * n + f
def sp_first_columns : Sp := fun vs H Q _ => ∃ (n m : Nat), vs = [.int (n : Int), .int (m : Int)] ∧ Sz n m ∧ ∀ t H1, Ex H H1 → ColsAt H1 t (tab n m (num0 n)) → Q (.ref t) H1
theorem u_first_columns (hz : Sz n m) (k : ∀ t H1, Ex H H1 → ColsAt H1 t (tab n m (num0 n)) → Q (.ref t) H1) : sp_first_columns [.int (n : Int), .int (m : Int)] H Q E := ⟨n, m, rfl, hz, k⟩
theorem ok_first_columns (T : Txt K w mg a) : FnOk P w K mg base CX0 2 a.a_first_columns a.fd_first_columns ["files", "rows"] sp_first_columns := by
  refine T.F_first_columns.ok sc_first_columns (fun vs H Q E h => ?_) (fun cdv A outer s H vs Q E hr h => ?_)
  · obtain ⟨n, m, rfl, _⟩ := h; rfl
  · obtain ⟨n, m, rfl, hz, k⟩ := h
    have G_columns_of := ok_columns_of (P := P) (base := base) T
    have hnm := hz.lt
    have hz0 := hz
    obtain ⟨hn, hm, hm1⟩ := hz
    refine ⟨_, (pss_one (ps_ret (pe_call G_columns_of (hr.mono (by decide)) (by rfl) T.m_columns_of T.k_columns_of T.b_columns_of .nil pass0 (pa_cons (pe_listRg rfl (by rfl) T.n_list (prg_1 (by rfl) T.n_range (pe_op op_mul (pv 0) (pv 1)))) (pa_cons (pv 0) pa_nil))))), ?_⟩
    walk_at "rd"
    rw [← Int.natCast_mul]
    refine ⟨RgOk.of_le (by omega) (by omega) (by omega) (by omega), x_new fun t H1 e1 f1 h1 => ?_⟩
    have er : rgV 0 ((n * m : Nat) : Int) = ((List.range (n * m)).map fun i : Nat => (fun i : Int => i) i).map V.int := by
      unfold rgV
      rw [List.map_map, Int.sub_zero, Int.toNat_natCast]
      refine List.map_congr_left fun i _ => ?_
      show V.int (0 + (i : Int)) = V.int (i : Int)
      rw [Int.zero_add]
    rw [er] at h1
    walk_at "rd"
    exact u_columns_of (h := fun i => i) hz0 h1 fun t H3 e3 h3 => k t H3 (e1.trans e3) h3
end
end My

set_option Elab.async false
set_option linter.all false
set_option maxRecDepth 100000
set_option maxHeartbeats 8000000
namespace My
open PySem PySem.Spec PyProof.Rows L2 Sx
local macro_rules | `(tactic| walk_at "nb") => `(tactic| first | exact NB.tup | exact NB.ints | exact NB.len (of_decide_eq_true rfl) | exact NB.at0b rfl | exact NB.at3b rfl | exact NB.ins | exact NB.own | exact NB.frz | exact NB.refs (by assumption) | assumption)
local macro_rules | `(tactic| walk_at "ne") => `(tactic| first | assumption | exact Ne.symm (by assumption) | exact ne_of_none (by assumption) (by assumption) | exact Ne.symm (ne_of_none (by assumption) (by assumption)))
local macro_rules | `(tactic| walk_at "hk") => `(tactic| first
  | assumption
  | exact upd_same
  | (refine' (upd_ne ?hkne).trans ?hkq; (case hkne => walk_at "ne"); (case hkq => walk_at "hk"))
  | (refine' Ex.kp (by assumption) _ _ ?hkq ?hkn; (case hkq => walk_at "hk"); (case hkn => walk_at "nb")))
local macro_rules | `(tactic| walk_at "rd1") => `(tactic| first
  | ((with_reducible refine' x_var ?hx ?_); (case hx => exact rfl))
  | with_reducible refine x_c ?_
  | with_reducible refine x_op ?_
  | with_reducible refine x_un ?_
  | with_reducible refine x_I0 ?_
  | with_reducible refine x_U ?_
  | ((with_reducible refine x_I ?hc ?_); (case hc => first | exact (by decide : (0 : Int) < _) | (show (0 : Int) < _; omega) | (show CMul _ _; first | exact .inl ⟨by omega, by omega⟩ | exact .inr ⟨by omega, by omega⟩) | (show CDiv _ _; exact ⟨by omega, by omega⟩) | (show CDivW _ _; exact wide_div (b := 200) (by omega) (by assumption) (by decide) (by decide)) | (show CDivW _ _; exact wide_div (b := 31) (by omega) (by omega) (by decide) (by decide))))
  | with_reducible refine x_EqI ?_
  | with_reducible refine x_NeI ?_
  | ((with_reducible refine x_EqSt ?h ?_); (case h => decide +kernel))
  | ((with_reducible refine x_EqSf ?h ?_); (case h => decide +kernel))
  | ((with_reducible refine x_NeSt ?h ?_); (case h => decide +kernel))
  | ((with_reducible refine x_NeSf ?h ?_); (case h => decide +kernel))
  | with_reducible refine x_EqS ?_
  | with_reducible refine x_NeS ?_
  | ((with_reducible refine' x_ixL ?hq ?hi ?_); (case hq => walk_at "hk"); (case hi => first | exact rfl | assumption))
  | ((with_reducible refine' x_ixT ?hq ?hi ?_); (case hq => walk_at "hk"); (case hi => first | exact rfl | assumption))
  | with_reducible refine x_chain ?_
  | with_reducible refine x_tup ?_
  | with_reducible refine x_lst ?_
  | ((with_reducible refine x_lenNew ?hl ?_); (case hl => exact Nat.le_of_ble_eq_true rfl); intro _ _ _ _ _)
  | ((with_reducible refine x_new ?_); intro _ _ _ _ _)
  | with_reducible refine x_sl ?_
  | with_reducible refine x_noPart ?_
  | with_reducible refine x_part ?_
  | with_reducible refine x_ex_int ?_
  | with_reducible refine x_ex_bl ?_
  | with_reducible refine x_ex_2 ?_
  | with_reducible refine x_test ?_
  | with_reducible refine x_B ?_
  | with_reducible refine x_and ?_
  | with_reducible refine x_or ?_
  | with_reducible refine x_not ?_
  | with_reducible refine x_andV ?_
  | with_reducible refine x_orV ?_
  | with_reducible refine x_notV ?_
  | with_reducible refine x_ifE ?_
  | with_reducible refine x_iteT ?_
  | with_reducible refine x_iteF ?_
  | ((with_reducible refine x_iteD ?_ ?_) <;> intro _)
  | ((with_reducible refine x_iteN ?_ ?_) <;> intro _)
  | with_reducible refine x_if ?_
  | with_reducible refine x_seq ?_
  | with_reducible refine x_next ?_
  | with_reducible refine x_asg ?_
  | with_reducible refine x_gName ?_
  | ((with_reducible refine' x_gTup ?hq ?hn ?_); (case hq => walk_at "hk"); (case hn => exact rfl))
  | with_reducible refine x_gCons ?_
  | with_reducible refine x_gNil ?_
  | ((with_reducible refine' x_gConsE ?h ?_); (case h => exact rfl))
  | ((with_reducible refine x_gNilE ?h ?_); (case h => exact rfl))
  | with_reducible refine x_ret ?_
  | with_reducible refine x_drop ?_
  | with_reducible refine x_par ?_
  | ((with_reducible refine' x_aug ?hx ?_); (case hx => exact rfl))
  | with_reducible refine x_ipI ?_
  | with_reducible refine x_augS ?_
  | with_reducible refine x_gSub ?_
  | ((with_reducible refine' x_setL ?hq ?hi ?_); (case hq => walk_at "hk"); (case hi => first | exact rfl | assumption))
  | with_reducible refine x_cons ?_
  | with_reducible refine x_nil ?_
  | with_reducible refine x_CB ?_
  | with_reducible refine x_abs ?_
  | with_reducible refine x_intI ?_
  | with_reducible refine x_intB ?_
  | ((with_reducible refine' x_lenL ?hq ?_); (case hq => walk_at "hk"))
  | ((with_reducible refine' x_lenT ?hq ?_); (case hq => walk_at "hk"))
  | ((with_reducible refine x_iteTe ?h ?_); (case h => exact rfl))
  | ((with_reducible refine x_iteFe ?h ?_); (case h => exact rfl))
  | walk_at "use"
  | with_reducible refine x_callS ?_
  | ((with_reducible refine x_lc ?_))
  | ((with_reducible refine x_for ?_))
  | ((with_reducible refine x_iR1 ?_))
  | ((with_reducible refine x_iL ?_))
  | ((with_reducible refine x_iZ ?_))
  | ((with_reducible refine x_yes ?_))
  | ((with_reducible refine' x_NIDt ?hq ?_); (case hq => assumption))
  | ((with_reducible refine' x_NIDf ?hq ?_); (case hq => assumption))
  | ((with_reducible refine' x_IIDf ?hq ?_); (case hq => assumption))
  | ((with_reducible refine' x_IIDt ?hq ?_); (case hq => assumption))
  | ((with_reducible refine' x_ixDs ?hd ?hq ?_); (case hd => assumption); (case hq => assumption))
  | ((with_reducible refine x_InSt ?h ?_); (case h => decide +kernel))
  | ((with_reducible refine x_InSf ?h ?_); (case h => decide +kernel))
  | ((with_reducible refine' x_notInI ?hq ?_); (case hq => walk_at "hk"))
  | ((with_reducible refine' x_inTt ?hq ?hv ?ha ?he ?_); (case hq => walk_at "hk"); (case hv => exact rfl); (case ha => exact rfl); (case he => decide +kernel))
  | ((with_reducible refine' x_inTf ?hq ?hv ?ha ?he ?_); (case hq => walk_at "hk"); (case hv => exact rfl); (case ha => exact rfl); (case he => decide +kernel))
  | ((with_reducible refine' x_slT ?hq ?hw ?_); (case hq => walk_at "hk"); (case hw => with_unfolding_all exact of_decide_eq_true rfl))
  | ((with_reducible refine' x_slL ?hq ?_); (case hq => walk_at "hk"))
  | ((with_reducible refine' x_catT ?hq ?hr ?n1 ?n2 ?hl ?_); (case hq => walk_at "hk"); (case hr => walk_at "hk"); (case n1 => exact List.cons_ne_nil _ _); (case n2 => exact List.cons_ne_nil _ _); (case hl => exact Nat.le_of_ble_eq_true rfl))
  | ((with_reducible refine x_bm ?_))
  | ((with_reducible refine x_lstRg ?_))
  | ((with_reducible refine x_rg1 ?_))
  | ((with_reducible refine And.intro ?h ?_); (case h => exact tyL (by assumption)))
  | dsimp only)
local macro_rules | `(tactic| walk_at "use") => `(tactic| fail)
local macro_rules | `(tactic| walk_at "rd") => `(tactic| repeat' (walk_at "rd1"))
local macro_rules | `(tactic| walk_at "ex") => `(tactic| first | exact Ex.refl _ | assumption | (refine' Ex.trans ?he (by assumption); (case he => walk_at "ex")))
local macro_rules | `(tactic| walk_at "rd1") => `(tactic| first
  | ((with_reducible refine x_iteDf ?h ?_); (case h => exact rfl))
  | ((with_reducible refine x_iteDt ?h ?_); (case h => exact rfl))
  | ((with_reducible refine x_iteNf ?h ?_); (case h => exact rfl))
  | ((with_reducible refine x_iteNt ?h ?_); (case h => exact rfl))
  | ((with_reducible refine x_isiI (r := true) ?h ?_); (case h => decide +kernel))
  | ((with_reducible refine x_isiI (r := false) ?h ?_); (case h => decide +kernel))
  | ((with_reducible refine x_isiS (r := true) ?h ?_); (case h => decide +kernel))
  | ((with_reducible refine x_isiS (r := false) ?h ?_); (case h => decide +kernel))
  | ((with_reducible refine x_isiB (r := true) ?h ?_); (case h => decide +kernel))
  | ((with_reducible refine x_isiB (r := false) ?h ?_); (case h => decide +kernel))
  | ((with_reducible refine' x_isiT (r := true) ?hp ?h ?_); (case hp => walk_at "hk"); (case h => decide +kernel))
  | ((with_reducible refine' x_isiT (r := false) ?hp ?h ?_); (case hp => walk_at "hk"); (case h => decide +kernel))
  | ((with_reducible refine' x_isiL (r := true) ?hp ?h ?_); (case hp => walk_at "hk"); (case h => decide +kernel))
  | ((with_reducible refine' x_isiL (r := false) ?hp ?h ?_); (case hp => walk_at "hk"); (case h => decide +kernel))
  | ((with_reducible refine' x_isi2L ?hp ?hl ?_); (case hp => walk_at "hk"); (case hl => walk_at "hk"))
  | ((with_reducible refine' x_isi2T ?hp ?hl ?_); (case hp => walk_at "hk"); (case hl => walk_at "hk"))
  | ((with_reducible refine' x_tupOfL ?hq ?_); (case hq => walk_at "hk"))
  | ((with_reducible refine' x_tupOfT ?hq ?_); (case hq => walk_at "hk"))
  | ((with_reducible refine x_lenS ?h ?_); (case h => exact Nat.le_of_ble_eq_true rfl))
  | ((with_reducible refine' x_all ?hq ?_); (case hq => walk_at "hk"))
  | with_reducible refine x_lenSet ?_)
local macro_rules | `(tactic| walk_at "rd1") => `(tactic| first
  | with_reducible refine Er.x_iR2 ?_
  | with_reducible refine Er.x_iEn ?_
  | with_reducible refine Er.x_cont ?_
  | ((with_reducible refine Er.x_isBt ?h ?_); (case h => exact rfl))
  | ((with_reducible refine Er.x_isBf ?h ?_); (case h => exact rfl))
  | ((with_reducible refine Er.x_isNBt ?h ?_); (case h => exact rfl))
  | ((with_reducible refine Er.x_isNBf ?h ?_); (case h => exact rfl))
  | with_reducible refine Er.x_isB ?_
  | with_reducible refine Er.x_isNB ?_)

open Cl
section
variable {q : C} {qs us : List C} {n m : Nat} {g : Int → Int → Int} {r f : Int}
/-- who stands where behind what undoes calls: whoever stood where they lead -/
theorem ledg_led (h : ∀ q ∈ qs, q.ok n) {x : Int × Int} (hx : onLine n m x) : ledg (qs.reverse.map C.turned) n m g x.1 x.2 = g (led qs n m x).1 (led qs n m x).2 := by
  induction qs generalizing x with
  | nil => rfl
  | cons q qs ih =>
    rw [List.reverse_cons, List.map_append, List.map_cons, List.map_nil, ledg_snoc]
    show ledg (qs.reverse.map C.turned) n m g (mv q.turned.turned n m x.1 x.2).1 (mv q.turned.turned n m x.1 x.2).2 = _
    rw [C.turned2]
    exact ih (fun z hz => h z (.tail _ hz)) (mv_range (h q (.head _)) hx.1 hx.2)
theorem on_at {i : Nat} (hn : 0 < n) (hi : i < n * m) : onLine n m ((i : Int) / n, (i : Int) % n) := by
  have hd : i / n < m := Nat.div_lt_of_lt_mul hi
  have hm : i % n < n := Nat.mod_lt _ hn
  have e1 : (i : Int) / n = ((i / n : Nat) : Int) := by simp
  have e2 : (i : Int) % n = ((i % n : Nat) : Int) := by simp
  rw [e1, e2]
  exact ⟨⟨Int.natCast_nonneg _, Int.ofNat_lt.mpr hd⟩, ⟨Int.natCast_nonneg _, Int.ofNat_lt.mpr hm⟩⟩
theorem ord_same (hn : 0 < n) (h1 : ∀ q ∈ qs, q.ok n) (h2 : ∀ q ∈ us, q.ok n) (h : ∀ x, onLine n m x → led qs n m x = led us n m x) : ord n m (ledg (qs.reverse.map C.turned) n m g) = ord n m (ledg (us.reverse.map C.turned) n m g) := by
  refine List.map_congr_left fun i hi => ?_
  have on := on_at hn (List.mem_range.mp hi)
  rw [ledg_led h1 on, ledg_led h2 on, h _ on]
end
end My

set_option Elab.async false
set_option linter.all false
set_option maxRecDepth 100000
set_option maxHeartbeats 8000000
namespace My
open PySem PySem.Spec PyProof.Rows L2 Sx
local macro_rules | `(tactic| walk_at "nb") => `(tactic| first | exact NB.tup | exact NB.ints | exact NB.len (of_decide_eq_true rfl) | exact NB.at0b rfl | exact NB.at3b rfl | exact NB.ins | exact NB.own | exact NB.frz | exact NB.refs (by assumption) | assumption)
local macro_rules | `(tactic| walk_at "ne") => `(tactic| first | assumption | exact Ne.symm (by assumption) | exact ne_of_none (by assumption) (by assumption) | exact Ne.symm (ne_of_none (by assumption) (by assumption)))
local macro_rules | `(tactic| walk_at "hk") => `(tactic| first
  | assumption
  | exact upd_same
  | (refine' (upd_ne ?hkne).trans ?hkq; (case hkne => walk_at "ne"); (case hkq => walk_at "hk"))
  | (refine' Ex.kp (by assumption) _ _ ?hkq ?hkn; (case hkq => walk_at "hk"); (case hkn => walk_at "nb")))
local macro_rules | `(tactic| walk_at "rd1") => `(tactic| first
  | ((with_reducible refine' x_var ?hx ?_); (case hx => exact rfl))
  | with_reducible refine x_c ?_
  | with_reducible refine x_op ?_
  | with_reducible refine x_un ?_
  | with_reducible refine x_I0 ?_
  | with_reducible refine x_U ?_
  | ((with_reducible refine x_I ?hc ?_); (case hc => first | exact (by decide : (0 : Int) < _) | (show (0 : Int) < _; omega) | (show CMul _ _; first | exact .inl ⟨by omega, by omega⟩ | exact .inr ⟨by omega, by omega⟩) | (show CDiv _ _; exact ⟨by omega, by omega⟩) | (show CDivW _ _; exact wide_div (b := 200) (by omega) (by assumption) (by decide) (by decide)) | (show CDivW _ _; exact wide_div (b := 31) (by omega) (by omega) (by decide) (by decide))))
  | with_reducible refine x_EqI ?_
  | with_reducible refine x_NeI ?_
  | ((with_reducible refine x_EqSt ?h ?_); (case h => decide +kernel))
  | ((with_reducible refine x_EqSf ?h ?_); (case h => decide +kernel))
  | ((with_reducible refine x_NeSt ?h ?_); (case h => decide +kernel))
  | ((with_reducible refine x_NeSf ?h ?_); (case h => decide +kernel))
  | with_reducible refine x_EqS ?_
  | with_reducible refine x_NeS ?_
  | ((with_reducible refine' x_ixL ?hq ?hi ?_); (case hq => walk_at "hk"); (case hi => first | exact rfl | assumption))
  | ((with_reducible refine' x_ixT ?hq ?hi ?_); (case hq => walk_at "hk"); (case hi => first | exact rfl | assumption))
  | with_reducible refine x_chain ?_
  | with_reducible refine x_tup ?_
  | with_reducible refine x_lst ?_
  | ((with_reducible refine x_lenNew ?hl ?_); (case hl => exact Nat.le_of_ble_eq_true rfl); intro _ _ _ _ _)
  | ((with_reducible refine x_new ?_); intro _ _ _ _ _)
  | with_reducible refine x_sl ?_
  | with_reducible refine x_noPart ?_
  | with_reducible refine x_part ?_
  | with_reducible refine x_ex_int ?_
  | with_reducible refine x_ex_bl ?_
  | with_reducible refine x_ex_2 ?_
  | with_reducible refine x_test ?_
  | with_reducible refine x_B ?_
  | with_reducible refine x_and ?_
  | with_reducible refine x_or ?_
  | with_reducible refine x_not ?_
  | with_reducible refine x_andV ?_
  | with_reducible refine x_orV ?_
  | with_reducible refine x_notV ?_
  | with_reducible refine x_ifE ?_
  | with_reducible refine x_iteT ?_
  | with_reducible refine x_iteF ?_
  | ((with_reducible refine x_iteD ?_ ?_) <;> intro _)
  | ((with_reducible refine x_iteN ?_ ?_) <;> intro _)
  | with_reducible refine x_if ?_
  | with_reducible refine x_seq ?_
  | with_reducible refine x_next ?_
  | with_reducible refine x_asg ?_
  | with_reducible refine x_gName ?_
  | ((with_reducible refine' x_gTup ?hq ?hn ?_); (case hq => walk_at "hk"); (case hn => exact rfl))
  | with_reducible refine x_gCons ?_
  | with_reducible refine x_gNil ?_
  | ((with_reducible refine' x_gConsE ?h ?_); (case h => exact rfl))
  | ((with_reducible refine x_gNilE ?h ?_); (case h => exact rfl))
  | with_reducible refine x_ret ?_
  | with_reducible refine x_drop ?_
  | with_reducible refine x_par ?_
  | ((with_reducible refine' x_aug ?hx ?_); (case hx => exact rfl))
  | with_reducible refine x_ipI ?_
  | with_reducible refine x_augS ?_
  | with_reducible refine x_gSub ?_
  | ((with_reducible refine' x_setL ?hq ?hi ?_); (case hq => walk_at "hk"); (case hi => first | exact rfl | assumption))
  | with_reducible refine x_cons ?_
  | with_reducible refine x_nil ?_
  | with_reducible refine x_CB ?_
  | with_reducible refine x_abs ?_
  | with_reducible refine x_intI ?_
  | with_reducible refine x_intB ?_
  | ((with_reducible refine' x_lenL ?hq ?_); (case hq => walk_at "hk"))
  | ((with_reducible refine' x_lenT ?hq ?_); (case hq => walk_at "hk"))
  | ((with_reducible refine x_iteTe ?h ?_); (case h => exact rfl))
  | ((with_reducible refine x_iteFe ?h ?_); (case h => exact rfl))
  | walk_at "use"
  | with_reducible refine x_callS ?_
  | ((with_reducible refine x_lc ?_))
  | ((with_reducible refine x_for ?_))
  | ((with_reducible refine x_iR1 ?_))
  | ((with_reducible refine x_iL ?_))
  | ((with_reducible refine x_iZ ?_))
  | ((with_reducible refine x_yes ?_))
  | ((with_reducible refine' x_NIDt ?hq ?_); (case hq => assumption))
  | ((with_reducible refine' x_NIDf ?hq ?_); (case hq => assumption))
  | ((with_reducible refine' x_IIDf ?hq ?_); (case hq => assumption))
  | ((with_reducible refine' x_IIDt ?hq ?_); (case hq => assumption))
  | ((with_reducible refine' x_ixDs ?hd ?hq ?_); (case hd => assumption); (case hq => assumption))
  | ((with_reducible refine x_InSt ?h ?_); (case h => decide +kernel))
  | ((with_reducible refine x_InSf ?h ?_); (case h => decide +kernel))
  | ((with_reducible refine' x_notInI ?hq ?_); (case hq => walk_at "hk"))
  | ((with_reducible refine' x_inTt ?hq ?hv ?ha ?he ?_); (case hq => walk_at "hk"); (case hv => exact rfl); (case ha => exact rfl); (case he => decide +kernel))
  | ((with_reducible refine' x_inTf ?hq ?hv ?ha ?he ?_); (case hq => walk_at "hk"); (case hv => exact rfl); (case ha => exact rfl); (case he => decide +kernel))
  | ((with_reducible refine' x_slT ?hq ?hw ?_); (case hq => walk_at "hk"); (case hw => with_unfolding_all exact of_decide_eq_true rfl))
  | ((with_reducible refine' x_slL ?hq ?_); (case hq => walk_at "hk"))
  | ((with_reducible refine' x_catT ?hq ?hr ?n1 ?n2 ?hl ?_); (case hq => walk_at "hk"); (case hr => walk_at "hk"); (case n1 => exact List.cons_ne_nil _ _); (case n2 => exact List.cons_ne_nil _ _); (case hl => exact Nat.le_of_ble_eq_true rfl))
  | ((with_reducible refine x_bm ?_))
  | ((with_reducible refine x_lstRg ?_))
  | ((with_reducible refine x_rg1 ?_))
  | ((with_reducible refine And.intro ?h ?_); (case h => exact tyL (by assumption)))
  | dsimp only)
local macro_rules | `(tactic| walk_at "use") => `(tactic| fail)
local macro_rules | `(tactic| walk_at "rd") => `(tactic| repeat' (walk_at "rd1"))
local macro_rules | `(tactic| walk_at "ex") => `(tactic| first | exact Ex.refl _ | assumption | (refine' Ex.trans ?he (by assumption); (case he => walk_at "ex")))
local macro_rules | `(tactic| walk_at "rd1") => `(tactic| first
  | ((with_reducible refine x_iteDf ?h ?_); (case h => exact rfl))
  | ((with_reducible refine x_iteDt ?h ?_); (case h => exact rfl))
  | ((with_reducible refine x_iteNf ?h ?_); (case h => exact rfl))
  | ((with_reducible refine x_iteNt ?h ?_); (case h => exact rfl))
  | ((with_reducible refine x_isiI (r := true) ?h ?_); (case h => decide +kernel))
  | ((with_reducible refine x_isiI (r := false) ?h ?_); (case h => decide +kernel))
  | ((with_reducible refine x_isiS (r := true) ?h ?_); (case h => decide +kernel))
  | ((with_reducible refine x_isiS (r := false) ?h ?_); (case h => decide +kernel))
  | ((with_reducible refine x_isiB (r := true) ?h ?_); (case h => decide +kernel))
  | ((with_reducible refine x_isiB (r := false) ?h ?_); (case h => decide +kernel))
  | ((with_reducible refine' x_isiT (r := true) ?hp ?h ?_); (case hp => walk_at "hk"); (case h => decide +kernel))
  | ((with_reducible refine' x_isiT (r := false) ?hp ?h ?_); (case hp => walk_at "hk"); (case h => decide +kernel))
  | ((with_reducible refine' x_isiL (r := true) ?hp ?h ?_); (case hp => walk_at "hk"); (case h => decide +kernel))
  | ((with_reducible refine' x_isiL (r := false) ?hp ?h ?_); (case hp => walk_at "hk"); (case h => decide +kernel))
  | ((with_reducible refine' x_isi2L ?hp ?hl ?_); (case hp => walk_at "hk"); (case hl => walk_at "hk"))
  | ((with_reducible refine' x_isi2T ?hp ?hl ?_); (case hp => walk_at "hk"); (case hl => walk_at "hk"))
  | ((with_reducible refine' x_tupOfL ?hq ?_); (case hq => walk_at "hk"))
  | ((with_reducible refine' x_tupOfT ?hq ?_); (case hq => walk_at "hk"))
  | ((with_reducible refine x_lenS ?h ?_); (case h => exact Nat.le_of_ble_eq_true rfl))
  | ((with_reducible refine' x_all ?hq ?_); (case hq => walk_at "hk"))
  | with_reducible refine x_lenSet ?_)
local macro_rules | `(tactic| walk_at "rd1") => `(tactic| first
  | with_reducible refine Er.x_iR2 ?_
  | with_reducible refine Er.x_iEn ?_
  | with_reducible refine Er.x_cont ?_
  | ((with_reducible refine Er.x_isBt ?h ?_); (case h => exact rfl))
  | ((with_reducible refine Er.x_isBf ?h ?_); (case h => exact rfl))
  | ((with_reducible refine Er.x_isNBt ?h ?_); (case h => exact rfl))
  | ((with_reducible refine Er.x_isNBf ?h ?_); (case h => exact rfl))
  | with_reducible refine Er.x_isB ?_
  | with_reducible refine Er.x_isNB ?_)

open Cl
section
variable {q : C} {qs us : List C} {n m : Nat} {g g' : Int → Int → Int} {r f : Int}
theorem ord_congr (hn : 0 < n) (h : ∀ x, onLine n m x → g x.1 x.2 = g' x.1 x.2) : ord n m g = ord n m g' :=
  List.map_congr_left fun i hi => h _ (on_at hn (List.mem_range.mp hi))
/-- led and then led back -/
theorem led_app {x : Int × Int} {fs rs : Int} : led (qs ++ us) fs rs x = led us fs rs (led qs fs rs x) := by
  unfold led
  rw [List.foldl_append]
theorem ok_rev {fs : Int} (h : ∀ q ∈ qs, q.ok fs) : ∀ q ∈ qs.reverse.map C.turned, q.ok fs := fun q hq => by
  obtain ⟨q', hq', rfl⟩ := List.mem_map.mp hq
  exact (h q' (List.mem_reverse.mp hq')).turned
theorem led_back {fs rs : Int} (h : ∀ q ∈ qs, q.ok fs) {x : Int × Int} (hx : onLine fs rs x) : led (qs.reverse.map C.turned) fs rs (led qs fs rs x) = x := by
  induction qs generalizing x with
  | nil => rfl
  | cons q qs ih =>
    rw [List.reverse_cons, List.map_append, led_app]
    show led [q.turned] fs rs (led (qs.reverse.map C.turned) fs rs (led qs fs rs (mv q fs rs x.1 x.2))) = x
    rw [ih (fun z hz => h z (.tail _ hz)) (mv_range (h q (.head _)) hx.1 hx.2)]
    exact mv_back (h q (.head _)) hx.1 hx.2
theorem rev_rev : (qs.reverse.map C.turned).reverse.map C.turned = qs := by
  rw [← List.map_reverse, List.reverse_reverse, List.map_map]
  rw [show (C.turned ∘ C.turned) = id from funext fun q => C.turned2, List.map_id]
/-- the numbers of the places to which calls lead -/
def goalsL (n m : Nat) (qs : List C) : List Int := ord n m fun r f => num0 n (led qs n m (r, f)).1 (led qs n m (r, f)).2
theorem moves_goals (hn : 0 < n) (h : ∀ q ∈ qs, q.ok n) : ord n m (ledg (qs.reverse.map C.turned) n m (num0 n)) = goalsL n m qs := ord_congr hn fun x hx => ledg_led h hx
theorem goals_len : (goalsL n m qs).length = n * m := ord_len ..
/-- a number and its place -/
theorem num_at (hn : 0 < n) {x : Int × Int} (hx : onLine n m x) : ∃ i : Nat, num0 n x.1 x.2 = i ∧ i < n * m ∧ (i : Int) / n = x.1 ∧ (i : Int) % n = x.2 := by
  have nr := num_range hx.1 hx.2
  refine ⟨(x.1 * n + x.2).toNat, ?_, ?_, ?_, ?_⟩
  · show x.1 * n + x.2 = _; omega
  · have e : (m : Int) * n = ((n * m : Nat) : Int) := by rw [Int.mul_comm]; simp
    omega
  · rw [Int.toNat_of_nonneg nr.1]; exact ediv_of hx.2
  · rw [Int.toNat_of_nonneg nr.1]; exact emod_of hx.2
theorem goal_at (hn : 0 < n) (h : ∀ q ∈ qs, q.ok n) {i : Nat} (hi : i < n * m) : ∃ j : Nat, (goalsL n m qs)[i]? = some (j : Int) ∧ j < n * m ∧ ((j : Int) / n, (j : Int) % n) = led qs n m ((i : Int) / n, (i : Int) % n) := by
  have on := led_range h (on_at hn hi)
  obtain ⟨j, h1, h2, h3, h4⟩ := num_at hn on
  refine ⟨j, ?_, h2, by rw [h3, h4]⟩
  unfold goalsL
  rw [ord_get hi, h1]
/-- what stands at the goals of another list, led back -/
theorem at_goal (hn : 0 < n) (h : ∀ q ∈ qs, q.ok n) {i j : Nat} (hi : i < n * m) (hj : (goalsL n m qs)[i]? = some (j : Int)) : (ord n m (ledg qs n m (num0 n)))[j]? = some (i : Int) ∧ (goalsL n m (qs.reverse.map C.turned))[j]? = some (i : Int) := by
  obtain ⟨k, e1, e2, e3⟩ := goal_at hn h hi
  have ek : k = j := by rw [e1] at hj; have := Option.some.inj hj; omega
  subst ek
  have hb : led (qs.reverse.map C.turned) n m ((k : Int) / n, (k : Int) % n) = ((i : Int) / n, (i : Int) % n) := by rw [e3, led_back h (on_at hn hi)]
  have num : num0 n ((i : Int) / n) ((i : Int) % n) = (i : Int) := by
    show (i : Int) / n * n + (i : Int) % n = i
    rw [Int.mul_comm]; exact Int.mul_ediv_add_emod _ _
  constructor
  · rw [ord_get e2]
    have := ledg_led (g := num0 n) (ok_rev h) (on_at hn e2)
    rw [rev_rev] at this
    rw [this, hb, num]
  · unfold goalsL
    rw [ord_get e2, hb, num]
theorem goals_perm (hn : 0 < n) (h : ∀ q ∈ qs, q.ok n) : (goalsL n m qs).Perm (Ivs.rg (n * m)) := by
  refine Ivs.perm_of ?_ (fun x hx => ?_) (by rw [goals_len, Ivs.rg_length]; exact Nat.le_refl _)
  · refine List.nodup_iff_pairwise_ne.mpr (List.pairwise_iff_getElem.mpr fun i j hi hj hij e => ?_)
    rw [goals_len] at hi hj
    obtain ⟨a, a1, _, _⟩ := goal_at (m := m) hn h hi
    obtain ⟨b, b1, _, _⟩ := goal_at (m := m) hn h hj
    rw [List.getElem?_eq_getElem (by rw [goals_len]; exact hi)] at a1
    rw [List.getElem?_eq_getElem (by rw [goals_len]; exact hj)] at b1
    have ab : a = b := by have := Option.some.inj a1; have := Option.some.inj b1; omega
    subst ab
    have x1 := (at_goal (m := m) hn h hi (by rw [List.getElem?_eq_getElem (by rw [goals_len]; exact hi)]; exact a1)).2
    have x2 := (at_goal (m := m) hn h hj (by rw [List.getElem?_eq_getElem (by rw [goals_len]; exact hj)]; exact b1)).2
    rw [x1] at x2
    have := Option.some.inj x2
    omega
  · obtain ⟨i, hi⟩ := List.getElem?_of_mem hx
    have hi' := (List.getElem?_eq_some_iff.mp hi).1
    rw [goals_len] at hi'
    obtain ⟨j, j1, j2, _⟩ := goal_at (m := m) hn h hi'
    rw [hi] at j1
    rw [Option.some.inj j1]
    exact Ivs.mem_rg.mpr ⟨by omega, by omega⟩
end
end My

set_option Elab.async false
set_option linter.all false
set_option maxRecDepth 100000
set_option maxHeartbeats 8000000
namespace My
open PySem PySem.Spec PyProof.Rows L2 Sx
local macro_rules | `(tactic| walk_at "nb") => `(tactic| first | exact NB.tup | exact NB.ints | exact NB.len (of_decide_eq_true rfl) | exact NB.at0b rfl | exact NB.at3b rfl | exact NB.ins | exact NB.own | exact NB.frz | exact NB.refs (by assumption) | assumption)
local macro_rules | `(tactic| walk_at "ne") => `(tactic| first | assumption | exact Ne.symm (by assumption) | exact ne_of_none (by assumption) (by assumption) | exact Ne.symm (ne_of_none (by assumption) (by assumption)))
local macro_rules | `(tactic| walk_at "hk") => `(tactic| first
  | assumption
  | exact upd_same
  | (refine' (upd_ne ?hkne).trans ?hkq; (case hkne => walk_at "ne"); (case hkq => walk_at "hk"))
  | (refine' Ex.kp (by assumption) _ _ ?hkq ?hkn; (case hkq => walk_at "hk"); (case hkn => walk_at "nb")))
local macro_rules | `(tactic| walk_at "rd1") => `(tactic| first
  | ((with_reducible refine' x_var ?hx ?_); (case hx => exact rfl))
  | with_reducible refine x_c ?_
  | with_reducible refine x_op ?_
  | with_reducible refine x_un ?_
  | with_reducible refine x_I0 ?_
  | with_reducible refine x_U ?_
  | ((with_reducible refine x_I ?hc ?_); (case hc => first | exact (by decide : (0 : Int) < _) | (show (0 : Int) < _; omega) | (show CMul _ _; first | exact .inl ⟨by omega, by omega⟩ | exact .inr ⟨by omega, by omega⟩) | (show CDiv _ _; exact ⟨by omega, by omega⟩) | (show CDivW _ _; exact wide_div (b := 200) (by omega) (by assumption) (by decide) (by decide)) | (show CDivW _ _; exact wide_div (b := 31) (by omega) (by omega) (by decide) (by decide))))
  | with_reducible refine x_EqI ?_
  | with_reducible refine x_NeI ?_
  | ((with_reducible refine x_EqSt ?h ?_); (case h => decide +kernel))
  | ((with_reducible refine x_EqSf ?h ?_); (case h => decide +kernel))
  | ((with_reducible refine x_NeSt ?h ?_); (case h => decide +kernel))
  | ((with_reducible refine x_NeSf ?h ?_); (case h => decide +kernel))
  | with_reducible refine x_EqS ?_
  | with_reducible refine x_NeS ?_
  | ((with_reducible refine' x_ixL ?hq ?hi ?_); (case hq => walk_at "hk"); (case hi => first | exact rfl | assumption))
  | ((with_reducible refine' x_ixT ?hq ?hi ?_); (case hq => walk_at "hk"); (case hi => first | exact rfl | assumption))
  | with_reducible refine x_chain ?_
  | with_reducible refine x_tup ?_
  | with_reducible refine x_lst ?_
  | ((with_reducible refine x_lenNew ?hl ?_); (case hl => exact Nat.le_of_ble_eq_true rfl); intro _ _ _ _ _)
  | ((with_reducible refine x_new ?_); intro _ _ _ _ _)
  | with_reducible refine x_sl ?_
  | with_reducible refine x_noPart ?_
  | with_reducible refine x_part ?_
  | with_reducible refine x_ex_int ?_
  | with_reducible refine x_ex_bl ?_
  | with_reducible refine x_ex_2 ?_
  | with_reducible refine x_test ?_
  | with_reducible refine x_B ?_
  | with_reducible refine x_and ?_
  | with_reducible refine x_or ?_
  | with_reducible refine x_not ?_
  | with_reducible refine x_andV ?_
  | with_reducible refine x_orV ?_
  | with_reducible refine x_notV ?_
  | with_reducible refine x_ifE ?_
  | with_reducible refine x_iteT ?_
  | with_reducible refine x_iteF ?_
  | ((with_reducible refine x_iteD ?_ ?_) <;> intro _)
  | ((with_reducible refine x_iteN ?_ ?_) <;> intro _)
  | with_reducible refine x_if ?_
  | with_reducible refine x_seq ?_
  | with_reducible refine x_next ?_
  | with_reducible refine x_asg ?_
  | with_reducible refine x_gName ?_
  | ((with_reducible refine' x_gTup ?hq ?hn ?_); (case hq => walk_at "hk"); (case hn => exact rfl))
  | with_reducible refine x_gCons ?_
  | with_reducible refine x_gNil ?_
  | ((with_reducible refine' x_gConsE ?h ?_); (case h => exact rfl))
  | ((with_reducible refine x_gNilE ?h ?_); (case h => exact rfl))
  | with_reducible refine x_ret ?_
  | with_reducible refine x_drop ?_
  | with_reducible refine x_par ?_
  | ((with_reducible refine' x_aug ?hx ?_); (case hx => exact rfl))
  | with_reducible refine x_ipI ?_
  | with_reducible refine x_augS ?_
  | with_reducible refine x_gSub ?_
  | ((with_reducible refine' x_setL ?hq ?hi ?_); (case hq => walk_at "hk"); (case hi => first | exact rfl | assumption))
  | with_reducible refine x_cons ?_
  | with_reducible refine x_nil ?_
  | with_reducible refine x_CB ?_
  | with_reducible refine x_abs ?_
  | with_reducible refine x_intI ?_
  | with_reducible refine x_intB ?_
  | ((with_reducible refine' x_lenL ?hq ?_); (case hq => walk_at "hk"))
  | ((with_reducible refine' x_lenT ?hq ?_); (case hq => walk_at "hk"))
  | ((with_reducible refine x_iteTe ?h ?_); (case h => exact rfl))
  | ((with_reducible refine x_iteFe ?h ?_); (case h => exact rfl))
  | walk_at "use"
  | with_reducible refine x_callS ?_
  | ((with_reducible refine x_lc ?_))
  | ((with_reducible refine x_for ?_))
  | ((with_reducible refine x_iR1 ?_))
  | ((with_reducible refine x_iL ?_))
  | ((with_reducible refine x_iZ ?_))
  | ((with_reducible refine x_yes ?_))
  | ((with_reducible refine' x_NIDt ?hq ?_); (case hq => assumption))
  | ((with_reducible refine' x_NIDf ?hq ?_); (case hq => assumption))
  | ((with_reducible refine' x_IIDf ?hq ?_); (case hq => assumption))
  | ((with_reducible refine' x_IIDt ?hq ?_); (case hq => assumption))
  | ((with_reducible refine' x_ixDs ?hd ?hq ?_); (case hd => assumption); (case hq => assumption))
  | ((with_reducible refine x_InSt ?h ?_); (case h => decide +kernel))
  | ((with_reducible refine x_InSf ?h ?_); (case h => decide +kernel))
  | ((with_reducible refine' x_notInI ?hq ?_); (case hq => walk_at "hk"))
  | ((with_reducible refine' x_inTt ?hq ?hv ?ha ?he ?_); (case hq => walk_at "hk"); (case hv => exact rfl); (case ha => exact rfl); (case he => decide +kernel))
  | ((with_reducible refine' x_inTf ?hq ?hv ?ha ?he ?_); (case hq => walk_at "hk"); (case hv => exact rfl); (case ha => exact rfl); (case he => decide +kernel))
  | ((with_reducible refine' x_slT ?hq ?hw ?_); (case hq => walk_at "hk"); (case hw => with_unfolding_all exact of_decide_eq_true rfl))
  | ((with_reducible refine' x_slL ?hq ?_); (case hq => walk_at "hk"))
  | ((with_reducible refine' x_catT ?hq ?hr ?n1 ?n2 ?hl ?_); (case hq => walk_at "hk"); (case hr => walk_at "hk"); (case n1 => exact List.cons_ne_nil _ _); (case n2 => exact List.cons_ne_nil _ _); (case hl => exact Nat.le_of_ble_eq_true rfl))
  | ((with_reducible refine x_bm ?_))
  | ((with_reducible refine x_lstRg ?_))
  | ((with_reducible refine x_rg1 ?_))
  | ((with_reducible refine And.intro ?h ?_); (case h => exact tyL (by assumption)))
  | dsimp only)
local macro_rules | `(tactic| walk_at "use") => `(tactic| fail)
local macro_rules | `(tactic| walk_at "rd") => `(tactic| repeat' (walk_at "rd1"))
local macro_rules | `(tactic| walk_at "ex") => `(tactic| first | exact Ex.refl _ | assumption | (refine' Ex.trans ?he (by assumption); (case he => walk_at "ex")))
local macro_rules | `(tactic| walk_at "rd1") => `(tactic| first
  | ((with_reducible refine x_iteDf ?h ?_); (case h => exact rfl))
  | ((with_reducible refine x_iteDt ?h ?_); (case h => exact rfl))
  | ((with_reducible refine x_iteNf ?h ?_); (case h => exact rfl))
  | ((with_reducible refine x_iteNt ?h ?_); (case h => exact rfl))
  | ((with_reducible refine x_isiI (r := true) ?h ?_); (case h => decide +kernel))
  | ((with_reducible refine x_isiI (r := false) ?h ?_); (case h => decide +kernel))
  | ((with_reducible refine x_isiS (r := true) ?h ?_); (case h => decide +kernel))
  | ((with_reducible refine x_isiS (r := false) ?h ?_); (case h => decide +kernel))
  | ((with_reducible refine x_isiB (r := true) ?h ?_); (case h => decide +kernel))
  | ((with_reducible refine x_isiB (r := false) ?h ?_); (case h => decide +kernel))
  | ((with_reducible refine' x_isiT (r := true) ?hp ?h ?_); (case hp => walk_at "hk"); (case h => decide +kernel))
  | ((with_reducible refine' x_isiT (r := false) ?hp ?h ?_); (case hp => walk_at "hk"); (case h => decide +kernel))
  | ((with_reducible refine' x_isiL (r := true) ?hp ?h ?_); (case hp => walk_at "hk"); (case h => decide +kernel))
  | ((with_reducible refine' x_isiL (r := false) ?hp ?h ?_); (case hp => walk_at "hk"); (case h => decide +kernel))
  | ((with_reducible refine' x_isi2L ?hp ?hl ?_); (case hp => walk_at "hk"); (case hl => walk_at "hk"))
  | ((with_reducible refine' x_isi2T ?hp ?hl ?_); (case hp => walk_at "hk"); (case hl => walk_at "hk"))
  | ((with_reducible refine' x_tupOfL ?hq ?_); (case hq => walk_at "hk"))
  | ((with_reducible refine' x_tupOfT ?hq ?_); (case hq => walk_at "hk"))
  | ((with_reducible refine x_lenS ?h ?_); (case h => exact Nat.le_of_ble_eq_true rfl))
  | ((with_reducible refine' x_all ?hq ?_); (case hq => walk_at "hk"))
  | with_reducible refine x_lenSet ?_)
local macro_rules | `(tactic| walk_at "rd1") => `(tactic| first
  | with_reducible refine Er.x_iR2 ?_
  | with_reducible refine Er.x_iEn ?_
  | with_reducible refine Er.x_cont ?_
  | ((with_reducible refine Er.x_isBt ?h ?_); (case h => exact rfl))
  | ((with_reducible refine Er.x_isBf ?h ?_); (case h => exact rfl))
  | ((with_reducible refine Er.x_isNBt ?h ?_); (case h => exact rfl))
  | ((with_reducible refine Er.x_isNBf ?h ?_); (case h => exact rfl))
  | with_reducible refine Er.x_isB ?_
  | with_reducible refine Er.x_isNB ?_)

open Cl
local macro_rules | `(tactic| walk_at "nb") => `(tactic| first | exact NB.ints | assumption | (refine Ow.Refs.nb ?_; assumption))
local macro_rules | `(tactic| walk_at "sc") => `(tactic| first | assumption | (refine' Scr.mono ?hscr ?escr; (case hscr => assumption); (case escr => walk_at "ex")))
local macro_rules | `(tactic| walk_at "rd1") => `(tactic| first
  | with_reducible refine x_iT ?_
  | with_reducible refine Ow.x_bm0 ?_
  | with_reducible refine x_make ?_
  | with_reducible refine Ow.x_meth ?_
  | with_reducible refine Ow.x_prop ?_
  | with_reducible refine Ow.x_iOwn ?_
  | ((with_reducible refine' x_methS ?h ?l ?_); (case h => walk_at "sc"); (case l => intro _ _; exact rfl))
  | ((with_reducible refine' x_propS ?h ?_); (case h => walk_at "sc"))
  | ((with_reducible refine' u_sfiles ?h ?_); (case h => walk_at "sc"))
  | ((with_reducible refine' u_ssize ?h ?hl ?_); (case h => walk_at "sc"); (case hl => omega); intro _ _)
  | ((with_reducible refine' u_scalls ?h ?_); (case h => walk_at "sc"); intro _ _ _ _ _ _ _)
  | ((with_reducible refine' u_sstraight ?h ?hl ?_); (case h => walk_at "sc"); (case hl => omega); intro _ _)
  | ((with_reducible refine' x_lenS' ?e ?h ?hl ?_); (case e => exact rfl); (case h => walk_at "sc"); (case hl => omega))
  | ((with_reducible refine' x_listS ?e ?h ?_); (case e => exact rfl); (case h => walk_at "sc"); intro _ _ _ _ _ _ _)
  | ((with_reducible refine' x_eqS ?c ?h ?h' ?_); (case c => assumption); (case h => walk_at "sc"); (case h' => walk_at "sc"))
  | ((with_reducible refine' x_neS ?c ?h ?h' ?_); (case c => assumption); (case h => walk_at "sc"); (case h' => walk_at "sc"))
  | ((with_reducible refine' x_eqSL ?c ?h ?h' ?_); (case c => assumption); (case h => walk_at "sc"); (case h' => walk_at "hk"))
  | ((with_reducible refine' x_eqST ?c ?h ?h' ?_); (case c => assumption); (case h => walk_at "sc"); (case h' => walk_at "hk"))
  | ((with_reducible refine' x_eqSI ?c ?h ?_); (case c => assumption); (case h => walk_at "sc")))
section
variable {P : Program} {w : World} {K : PySem.W.Frag} {mg : Str → Option Value} {base : Heap} {a : Ad} {H H1 : Hp} {Q : VK} {E : XK} {p b c t s dx : Addr} {fl gl : Int} {xs ps : List V} {q : C} {qs us : List C} {n m : Nat} {g : Int → Int → Int} {ls : List (List Int)} {CS : Addr}
open Er
theorem Sz.two (hz : Sz n m) : (2 : Int) ≤ n ∧ (n : Int) ≤ 3 := by rcases hz.1 with rfl | rfl <;> decide
/-! the order behind a script -/
def sp_order_behind (CS : Addr) : Sp := fun vs H Q _ => ∃ (s : Addr) (n m : Nat) (qs : List C), vs = [.ref s, .int (m : Int)] ∧ Scr CS H s n qs ∧ (∀ q ∈ qs, q.ok n) ∧ Sz n m ∧ ∀ t H1, Ex H H1 → NF H t → H1 t = some (.lst ((ord n m (ledg qs n m (num0 n))).map V.int)) → Q (.ref t) H1
theorem u_order_behind (hs : Scr CS H s n qs) (ho : ∀ q ∈ qs, q.ok n) (hz : Sz n m) (k : ∀ t H1, Ex H H1 → NF H t → H1 t = some (.lst ((ord n m (ledg qs n m (num0 n))).map V.int)) → Q (.ref t) H1) : sp_order_behind CS [.ref s, .int (m : Int)] H Q E := ⟨s, n, m, qs, rfl, hs, ho, hz, k⟩
theorem ok_order_behind (T : Txt K w mg a) : FnOk P w K mg base CX0 4 a.a_order_behind a.fd_order_behind ["script", "rows"] (sp_order_behind a.c_Script) := by
  refine T.F_order_behind.ok sc_order_behind (fun vs H Q E h => ?_) (fun cdv A outer s H vs Q E hr h => ?_)
  · obtain ⟨s, n, m, qs, rfl, _⟩ := h; rfl
  · obtain ⟨s, n, m, qs, rfl, hs, ho, hz, k⟩ := h
    have G_order_of := ok_order_of (P := P) (base := base) T
    have G_columns_led := ok_columns_led (P := P) (base := base) T
    have G_first_columns := ok_first_columns (P := P) (base := base) T
    have G_Script_files := ok_Script_files (P := P) (base := base) T
    have G_Script_calls := ok_Script_calls (P := P) (base := base) T
    refine ⟨_, (pss_one (ps_ret (pe_call G_order_of (hr.mono (by decide)) (by rfl) T.m_order_of T.k_order_of T.b_order_of .nil pass0 (pa_cons (pe_call G_columns_led (hr.mono (by decide)) (by rfl) T.m_columns_led T.k_columns_led T.b_columns_led .nil pass0 (pa_cons (pe_call G_first_columns (hr.mono (by decide)) (by rfl) T.m_first_columns T.k_first_columns T.b_first_columns .nil pass0 (pa_cons (pe_prop (pv 0) T.t_Script.cl T.P_Script_files G_Script_files (hr.mono (by decide)) T.b_Script_files .nil pass0 rfl) (pa_cons (pv 1) pa_nil))) (pa_cons (pe_meth0 (pv 0) T.t_Script.cl T.Q_Script_calls G_Script_calls (hr.mono (by decide)) T.b_Script_calls .nil pass0) pa_nil))) pa_nil)))), ?_⟩
    walk_at "rd"
    refine u_first_columns hz fun t1 H1 e1 h1 => ?_
    walk_at "rd"
    rename_i c xs H2 e2 f2 h2 c2
    refine u_columns_led h2 c2 ho hz (h1.ex e2) fun t3 H3 e3 h3 => ?_
    walk_at "rd"
    exact u_order_of hz h3 fun t4 H4 e4 f4 h4 => k t4 H4 (by walk_at "ex") (NF.back (by walk_at "ex") f4) h4
def sp_moves_of (CS : Addr) : Sp := fun vs H Q _ => ∃ (s : Addr) (n m : Nat) (qs : List C), vs = [.ref s, .int (m : Int)] ∧ Scr CS H s n qs ∧ (∀ q ∈ qs, q.ok n) ∧ qs.length ≤ 400 ∧ Sz n m ∧ ∀ t H1, Ex H H1 → NF H t → H1 t = some (.lst ((ord n m (ledg (qs.reverse.map My.C.turned) n m (num0 n))).map V.int)) → Q (.ref t) H1
theorem u_moves_of (hs : Scr CS H s n qs) (ho : ∀ q ∈ qs, q.ok n) (hl : qs.length ≤ 400) (hz : Sz n m) (k : ∀ t H1, Ex H H1 → NF H t → H1 t = some (.lst ((ord n m (ledg (qs.reverse.map My.C.turned) n m (num0 n))).map V.int)) → Q (.ref t) H1) : sp_moves_of CS [.ref s, .int (m : Int)] H Q E := ⟨s, n, m, qs, rfl, hs, ho, hl, hz, k⟩
theorem ok_moves_of (T : Txt K w mg a) : FnOk P w K mg base CX0 8 a.a_moves_of a.fd_moves_of ["script", "rows"] (sp_moves_of a.c_Script) := by
  refine T.F_moves_of.ok sc_moves_of (fun vs H Q E h => ?_) (fun cdv A outer s H vs Q E hr h => ?_)
  · obtain ⟨s, n, m, qs, rfl, _⟩ := h; rfl
  · obtain ⟨s, n, m, qs, rfl, hs, ho, hl, hz, k⟩ := h
    have G_order_behind := ok_order_behind (P := P) (base := base) T
    have G_Script_invert := ok_Script_invert (P := P) (base := base) T
    refine ⟨_, (pss_one (ps_ret (pe_call G_order_behind (hr.mono (by decide)) (by rfl) T.m_order_behind T.k_order_behind T.b_order_behind .nil pass0 (pa_cons (pe_un (Ow.un_invOwn G_Script_invert T.Q_Script_invert.at_ T.Q_Script_invert.fn T.b_Script_invert pass0 (hr.mono (by decide))) (pv 0)) (pa_cons (pv 1) pa_nil))))), ?_⟩
    walk_at "rd"
    refine x_invS hs (fun q hq => (ho q hq).good) hz.two.1 hz.two.2 hl fun t H1 e1 h1 => ?_
    walk_at "rd"
    refine u_order_behind h1 (fun q hq => ?_) hz fun t2 H2 e2 f2 h2 => k t2 H2 (e1.trans e2) (NF.back e1 f2) h2
    obtain ⟨q', hq', rfl⟩ := List.mem_map.mp hq
    exact (ho q' (List.mem_reverse.mp hq')).turned
end
end My

set_option Elab.async false
set_option linter.all false
set_option maxRecDepth 100000
set_option maxHeartbeats 8000000
namespace My
open PySem PySem.Spec PyProof.Rows L2 Sx
local macro_rules | `(tactic| walk_at "nb") => `(tactic| first | exact NB.tup | exact NB.ints | exact NB.len (of_decide_eq_true rfl) | exact NB.at0b rfl | exact NB.at3b rfl | exact NB.ins | exact NB.own | exact NB.frz | exact NB.refs (by assumption) | assumption)
local macro_rules | `(tactic| walk_at "ne") => `(tactic| first | assumption | exact Ne.symm (by assumption) | exact ne_of_none (by assumption) (by assumption) | exact Ne.symm (ne_of_none (by assumption) (by assumption)))
local macro_rules | `(tactic| walk_at "hk") => `(tactic| first
  | assumption
  | exact upd_same
  | (refine' (upd_ne ?hkne).trans ?hkq; (case hkne => walk_at "ne"); (case hkq => walk_at "hk"))
  | (refine' Ex.kp (by assumption) _ _ ?hkq ?hkn; (case hkq => walk_at "hk"); (case hkn => walk_at "nb")))
local macro_rules | `(tactic| walk_at "rd1") => `(tactic| first
  | ((with_reducible refine' x_var ?hx ?_); (case hx => exact rfl))
  | with_reducible refine x_c ?_
  | with_reducible refine x_op ?_
  | with_reducible refine x_un ?_
  | with_reducible refine x_I0 ?_
  | with_reducible refine x_U ?_
  | ((with_reducible refine x_I ?hc ?_); (case hc => first | exact (by decide : (0 : Int) < _) | (show (0 : Int) < _; omega) | (show CMul _ _; first | exact .inl ⟨by omega, by omega⟩ | exact .inr ⟨by omega, by omega⟩) | (show CDiv _ _; exact ⟨by omega, by omega⟩) | (show CDivW _ _; exact wide_div (b := 200) (by omega) (by assumption) (by decide) (by decide)) | (show CDivW _ _; exact wide_div (b := 31) (by omega) (by omega) (by decide) (by decide))))
  | with_reducible refine x_EqI ?_
  | with_reducible refine x_NeI ?_
  | ((with_reducible refine x_EqSt ?h ?_); (case h => decide +kernel))
  | ((with_reducible refine x_EqSf ?h ?_); (case h => decide +kernel))
  | ((with_reducible refine x_NeSt ?h ?_); (case h => decide +kernel))
  | ((with_reducible refine x_NeSf ?h ?_); (case h => decide +kernel))
  | with_reducible refine x_EqS ?_
  | with_reducible refine x_NeS ?_
  | ((with_reducible refine' x_ixL ?hq ?hi ?_); (case hq => walk_at "hk"); (case hi => first | exact rfl | assumption))
  | ((with_reducible refine' x_ixT ?hq ?hi ?_); (case hq => walk_at "hk"); (case hi => first | exact rfl | assumption))
  | with_reducible refine x_chain ?_
  | with_reducible refine x_tup ?_
  | with_reducible refine x_lst ?_
  | ((with_reducible refine x_lenNew ?hl ?_); (case hl => exact Nat.le_of_ble_eq_true rfl); intro _ _ _ _ _)
  | ((with_reducible refine x_new ?_); intro _ _ _ _ _)
  | with_reducible refine x_sl ?_
  | with_reducible refine x_noPart ?_
  | with_reducible refine x_part ?_
  | with_reducible refine x_ex_int ?_
  | with_reducible refine x_ex_bl ?_
  | with_reducible refine x_ex_2 ?_
  | with_reducible refine x_test ?_
  | with_reducible refine x_B ?_
  | with_reducible refine x_and ?_
  | with_reducible refine x_or ?_
  | with_reducible refine x_not ?_
  | with_reducible refine x_andV ?_
  | with_reducible refine x_orV ?_
  | with_reducible refine x_notV ?_
  | with_reducible refine x_ifE ?_
  | with_reducible refine x_iteT ?_
  | with_reducible refine x_iteF ?_
  | ((with_reducible refine x_iteD ?_ ?_) <;> intro _)
  | ((with_reducible refine x_iteN ?_ ?_) <;> intro _)
  | with_reducible refine x_if ?_
  | with_reducible refine x_seq ?_
  | with_reducible refine x_next ?_
  | with_reducible refine x_asg ?_
  | with_reducible refine x_gName ?_
  | ((with_reducible refine' x_gTup ?hq ?hn ?_); (case hq => walk_at "hk"); (case hn => exact rfl))
  | with_reducible refine x_gCons ?_
  | with_reducible refine x_gNil ?_
  | ((with_reducible refine' x_gConsE ?h ?_); (case h => exact rfl))
  | ((with_reducible refine x_gNilE ?h ?_); (case h => exact rfl))
  | with_reducible refine x_ret ?_
  | with_reducible refine x_drop ?_
  | with_reducible refine x_par ?_
  | ((with_reducible refine' x_aug ?hx ?_); (case hx => exact rfl))
  | with_reducible refine x_ipI ?_
  | with_reducible refine x_augS ?_
  | with_reducible refine x_gSub ?_
  | ((with_reducible refine' x_setL ?hq ?hi ?_); (case hq => walk_at "hk"); (case hi => first | exact rfl | assumption))
  | with_reducible refine x_cons ?_
  | with_reducible refine x_nil ?_
  | with_reducible refine x_CB ?_
  | with_reducible refine x_abs ?_
  | with_reducible refine x_intI ?_
  | with_reducible refine x_intB ?_
  | ((with_reducible refine' x_lenL ?hq ?_); (case hq => walk_at "hk"))
  | ((with_reducible refine' x_lenT ?hq ?_); (case hq => walk_at "hk"))
  | ((with_reducible refine x_iteTe ?h ?_); (case h => exact rfl))
  | ((with_reducible refine x_iteFe ?h ?_); (case h => exact rfl))
  | walk_at "use"
  | with_reducible refine x_callS ?_
  | ((with_reducible refine x_lc ?_))
  | ((with_reducible refine x_for ?_))
  | ((with_reducible refine x_iR1 ?_))
  | ((with_reducible refine x_iL ?_))
  | ((with_reducible refine x_iZ ?_))
  | ((with_reducible refine x_yes ?_))
  | ((with_reducible refine' x_NIDt ?hq ?_); (case hq => assumption))
  | ((with_reducible refine' x_NIDf ?hq ?_); (case hq => assumption))
  | ((with_reducible refine' x_IIDf ?hq ?_); (case hq => assumption))
  | ((with_reducible refine' x_IIDt ?hq ?_); (case hq => assumption))
  | ((with_reducible refine' x_ixDs ?hd ?hq ?_); (case hd => assumption); (case hq => assumption))
  | ((with_reducible refine x_InSt ?h ?_); (case h => decide +kernel))
  | ((with_reducible refine x_InSf ?h ?_); (case h => decide +kernel))
  | ((with_reducible refine' x_notInI ?hq ?_); (case hq => walk_at "hk"))
  | ((with_reducible refine' x_inTt ?hq ?hv ?ha ?he ?_); (case hq => walk_at "hk"); (case hv => exact rfl); (case ha => exact rfl); (case he => decide +kernel))
  | ((with_reducible refine' x_inTf ?hq ?hv ?ha ?he ?_); (case hq => walk_at "hk"); (case hv => exact rfl); (case ha => exact rfl); (case he => decide +kernel))
  | ((with_reducible refine' x_slT ?hq ?hw ?_); (case hq => walk_at "hk"); (case hw => with_unfolding_all exact of_decide_eq_true rfl))
  | ((with_reducible refine' x_slL ?hq ?_); (case hq => walk_at "hk"))
  | ((with_reducible refine' x_catT ?hq ?hr ?n1 ?n2 ?hl ?_); (case hq => walk_at "hk"); (case hr => walk_at "hk"); (case n1 => exact List.cons_ne_nil _ _); (case n2 => exact List.cons_ne_nil _ _); (case hl => exact Nat.le_of_ble_eq_true rfl))
  | ((with_reducible refine x_bm ?_))
  | ((with_reducible refine x_lstRg ?_))
  | ((with_reducible refine x_rg1 ?_))
  | ((with_reducible refine And.intro ?h ?_); (case h => exact tyL (by assumption)))
  | dsimp only)
local macro_rules | `(tactic| walk_at "use") => `(tactic| fail)
local macro_rules | `(tactic| walk_at "rd") => `(tactic| repeat' (walk_at "rd1"))
local macro_rules | `(tactic| walk_at "ex") => `(tactic| first | exact Ex.refl _ | assumption | (refine' Ex.trans ?he (by assumption); (case he => walk_at "ex")))
local macro_rules | `(tactic| walk_at "rd1") => `(tactic| first
  | ((with_reducible refine x_iteDf ?h ?_); (case h => exact rfl))
  | ((with_reducible refine x_iteDt ?h ?_); (case h => exact rfl))
  | ((with_reducible refine x_iteNf ?h ?_); (case h => exact rfl))
  | ((with_reducible refine x_iteNt ?h ?_); (case h => exact rfl))
  | ((with_reducible refine x_isiI (r := true) ?h ?_); (case h => decide +kernel))
  | ((with_reducible refine x_isiI (r := false) ?h ?_); (case h => decide +kernel))
  | ((with_reducible refine x_isiS (r := true) ?h ?_); (case h => decide +kernel))
  | ((with_reducible refine x_isiS (r := false) ?h ?_); (case h => decide +kernel))
  | ((with_reducible refine x_isiB (r := true) ?h ?_); (case h => decide +kernel))
  | ((with_reducible refine x_isiB (r := false) ?h ?_); (case h => decide +kernel))
  | ((with_reducible refine' x_isiT (r := true) ?hp ?h ?_); (case hp => walk_at "hk"); (case h => decide +kernel))
  | ((with_reducible refine' x_isiT (r := false) ?hp ?h ?_); (case hp => walk_at "hk"); (case h => decide +kernel))
  | ((with_reducible refine' x_isiL (r := true) ?hp ?h ?_); (case hp => walk_at "hk"); (case h => decide +kernel))
  | ((with_reducible refine' x_isiL (r := false) ?hp ?h ?_); (case hp => walk_at "hk"); (case h => decide +kernel))
  | ((with_reducible refine' x_isi2L ?hp ?hl ?_); (case hp => walk_at "hk"); (case hl => walk_at "hk"))
  | ((with_reducible refine' x_isi2T ?hp ?hl ?_); (case hp => walk_at "hk"); (case hl => walk_at "hk"))
  | ((with_reducible refine' x_tupOfL ?hq ?_); (case hq => walk_at "hk"))
  | ((with_reducible refine' x_tupOfT ?hq ?_); (case hq => walk_at "hk"))
  | ((with_reducible refine x_lenS ?h ?_); (case h => exact Nat.le_of_ble_eq_true rfl))
  | ((with_reducible refine' x_all ?hq ?_); (case hq => walk_at "hk"))
  | with_reducible refine x_lenSet ?_)
local macro_rules | `(tactic| walk_at "rd1") => `(tactic| first
  | with_reducible refine Er.x_iR2 ?_
  | with_reducible refine Er.x_iEn ?_
  | with_reducible refine Er.x_cont ?_
  | ((with_reducible refine Er.x_isBt ?h ?_); (case h => exact rfl))
  | ((with_reducible refine Er.x_isBf ?h ?_); (case h => exact rfl))
  | ((with_reducible refine Er.x_isNBt ?h ?_); (case h => exact rfl))
  | ((with_reducible refine Er.x_isNBf ?h ?_); (case h => exact rfl))
  | with_reducible refine Er.x_isB ?_
  | with_reducible refine Er.x_isNB ?_)

open Cl
section
variable {q : C} {qs us : List C} {n m : Nat} {g g' : Int → Int → Int} {r f : Int} {fs rs : Int}
/-! rounds -/
def rep (k : Nat) (qs : List C) : List C := (List.replicate k qs).flatten
theorem rep_one : rep 1 qs = qs := by simp [rep]
theorem rep_add (a b : Nat) : rep (a + b) qs = rep a qs ++ rep b qs := by
  unfold rep
  rw [← List.replicate_append_replicate, List.flatten_append]
theorem rep_ok {P : C → Prop} {k : Nat} (h : ∀ q ∈ qs, P q) : ∀ q ∈ rep k qs, P q := fun q hq => by
  obtain ⟨l, hl, hq⟩ := List.mem_flatten.mp hq
  rw [(List.mem_replicate.mp hl).2] at hq
  exact h q hq
/-- so many rounds, back if below 0 -/
def sg (k : Int) (qs : List C) : List C := rep k.natAbs (if 0 ≤ k then qs else qs.reverse.map C.turned)
theorem sg_ok (h : ∀ q ∈ qs, q.ok fs) (k : Int) : ∀ q ∈ sg k qs, q.ok fs := by
  unfold sg
  split
  · exact rep_ok h
  · exact rep_ok (ok_rev h)
theorem sg_zero : sg 0 qs = [] := rfl
theorem sg_one : sg 1 qs = qs := by
  show rep 1 (if (0 : Int) ≤ 1 then qs else qs.reverse.map C.turned) = qs
  rw [if_pos (by decide), rep_one]
theorem led_forth (h : ∀ q ∈ qs, q.ok fs) {x : Int × Int} (hx : onLine fs rs x) : led qs fs rs (led (qs.reverse.map C.turned) fs rs x) = x := by
  have := led_back (qs := qs.reverse.map C.turned) (ok_rev h) hx
  rw [rev_rev] at this
  exact this
theorem sg_step (h : ∀ q ∈ qs, q.ok fs) (k : Int) {x : Int × Int} (hx : onLine fs rs x) : led (sg (k + 1) qs) fs rs x = led qs fs rs (led (sg k qs) fs rs x) := by
  by_cases c : 0 ≤ k
  · have e : sg (k + 1) qs = sg k qs ++ qs := by
      unfold sg
      rw [if_pos c, if_pos (by omega), show (k + 1).natAbs = k.natAbs + 1 by omega, rep_add, rep_one]
    rw [e, led_app]
  · have e : sg k qs = sg (k + 1) qs ++ qs.reverse.map C.turned := by
      by_cases d : k + 1 = 0
      · have : k = -1 := by omega
        subst this
        show rep 1 (if (0 : Int) ≤ -1 then qs else qs.reverse.map C.turned) = rep 0 _ ++ qs.reverse.map C.turned
        rw [if_neg (by decide), rep_one]; rfl
      · unfold sg
        rw [if_neg c, if_neg (by omega), show k.natAbs = (k + 1).natAbs + 1 by omega, rep_add, rep_one]
    rw [e, led_app, led_forth h (led_range (sg_ok h _) hx)]
theorem sg_back (h : ∀ q ∈ qs, q.ok fs) (k : Int) {x : Int × Int} (hx : onLine fs rs x) : led (sg (k - 1) qs) fs rs x = led (qs.reverse.map C.turned) fs rs (led (sg k qs) fs rs x) := by
  have e := sg_step h (k - 1) hx
  rw [show k - 1 + 1 = k by omega] at e
  rw [e, led_back h (led_range (sg_ok h _) hx)]
theorem sg_add (h : ∀ q ∈ qs, q.ok fs) (k l : Int) {x : Int × Int} (hx : onLine fs rs x) : led (sg k qs ++ sg l qs) fs rs x = led (sg (k + l) qs) fs rs x := by
  rw [led_app]
  have pos : ∀ l : Nat, led (sg (l : Int) qs) fs rs (led (sg k qs) fs rs x) = led (sg (k + l) qs) fs rs x := fun l => by
    induction l with
    | zero => rw [show ((0 : Nat) : Int) = 0 from rfl, sg_zero, Int.add_zero]; rfl
    | succ l ih =>
      rw [show ((l + 1 : Nat) : Int) = (l : Int) + 1 by omega, sg_step h _ (led_range (sg_ok h _) hx), ih, ← Int.add_assoc, sg_step h _ hx]
  have neg : ∀ l : Nat, led (sg (-(l : Int)) qs) fs rs (led (sg k qs) fs rs x) = led (sg (k + -(l : Int)) qs) fs rs x := fun l => by
    induction l with
    | zero => rw [show -((0 : Nat) : Int) = 0 from rfl, sg_zero, Int.add_zero]; rfl
    | succ l ih =>
      rw [show -((l + 1 : Nat) : Int) = -(l : Int) - 1 by omega, sg_back h _ (led_range (sg_ok h _) hx), ih, show k + (-(l : Int) - 1) = k + -(l : Int) - 1 by omega, sg_back h _ hx]
  by_cases c : 0 ≤ l
  · have := pos l.toNat
    rw [Int.toNat_of_nonneg c] at this
    exact this
  · have := neg (-l).toNat
    rw [Int.toNat_of_nonneg (show 0 ≤ -l by omega), Int.neg_neg] at this
    exact this
theorem sg_turned (k : Int) : sg k (qs.reverse.map C.turned) = sg (-k) qs := by
  unfold sg
  rw [rev_rev, Int.natAbs_neg]
  by_cases c : k = 0
  · subst c; rfl
  · by_cases d : 0 ≤ k
    · rw [if_pos d, if_neg (by omega)]
    · rw [if_neg d, if_pos (by omega)]
/-! lines that stand alike -/
theorem ledg_app : ledg (qs ++ us) n m g = ledg us n m (ledg qs n m g) := by
  unfold ledg
  rw [List.foldl_append]
theorem ord_alike (hn : 0 < n) (h1 : ∀ q ∈ qs, q.ok n) (h2 : ∀ q ∈ us, q.ok n) (h : ∀ x, onLine n m x → led qs n m x = led us n m x) : ord n m (ledg qs n m g) = ord n m (ledg us n m g) := by
  have := ord_same (g := g) (m := m) hn (ok_rev h1) (ok_rev h2) fun y hy => by
    have hx := led_range (ok_rev h1) hy
    have e1 := led_forth h1 hy
    have e2 := h _ hx
    rw [e1] at e2
    have e3 := led_back h2 hx
    rw [← e2] at e3
    exact e3.symm
  rw [rev_rev, rev_rev] at this
  exact this
theorem ord_perm (hn : 0 < n) (h : ∀ q ∈ qs, q.ok n) : (ord n m (ledg qs n m (num0 n))).Perm (Ivs.rg (n * m)) := by
  have := moves_goals (m := m) hn (ok_rev h)
  rw [rev_rev] at this
  rw [this]
  exact goals_perm hn (ok_rev h)
/-- who stands at a goal -/
theorem at_goalG (hn : 0 < n) (h : ∀ q ∈ qs, q.ok n) {i j : Nat} (hi : i < n * m) (hj : (goalsL n m qs)[i]? = some (j : Int)) : j < n * m ∧ (ord n m (ledg qs n m g))[j]? = some (g ((i : Int) / n) ((i : Int) % n)) := by
  obtain ⟨k, e1, e2, e3⟩ := goal_at hn h hi
  have ek : k = j := by rw [e1] at hj; have := Option.some.inj hj; omega
  subst ek
  refine ⟨e2, ?_⟩
  rw [ord_get e2]
  have := ledg_led (g := g) (ok_rev h) (on_at hn e2)
  rw [rev_rev] at this
  rw [this, e3, led_back h (on_at hn hi)]
theorem goal_inj (hn : 0 < n) (h : ∀ q ∈ qs, q.ok n) {i k j : Nat} (hi : i < n * m) (hk : k < n * m) (ei : (goalsL n m qs)[i]? = some (j : Int)) (ek : (goalsL n m qs)[k]? = some (j : Int)) : i = k := by
  have a := (at_goal hn h hi ei).2
  have b := (at_goal hn h hk ek).2
  rw [a] at b
  have := Option.some.inj b
  omega
theorem goal_onto (hn : 0 < n) (h : ∀ q ∈ qs, q.ok n) {j : Nat} (hj : j < n * m) : ∃ i : Nat, i < n * m ∧ (goalsL n m qs)[i]? = some (j : Int) := by
  have hm : (j : Int) ∈ goalsL n m qs := (goals_perm (m := m) hn h).mem_iff.mpr (Ivs.mem_rg.mpr ⟨by omega, by omega⟩)
  obtain ⟨i, hi⟩ := List.getElem?_of_mem hm
  have := (List.getElem?_eq_some_iff.mp hi).1
  rw [goals_len] at this
  exact ⟨i, this, hi⟩
/-- one list of goals and then another -/
theorem goals_app (hn : 0 < n) (h1 : ∀ q ∈ qs, q.ok n) (h2 : ∀ q ∈ us, q.ok n) {i j : Nat} (hi : i < n * m) (hj : (goalsL n m qs)[i]? = some (j : Int)) : j < n * m ∧ (goalsL n m us)[j]? = (goalsL n m (qs ++ us))[i]? := by
  obtain ⟨k, e1, e2, e3⟩ := goal_at hn h1 hi
  have ek : k = j := by rw [e1] at hj; have := Option.some.inj hj; omega
  subst ek
  refine ⟨e2, ?_⟩
  unfold goalsL
  rw [ord_get e2, ord_get hi, led_app, e3]
theorem goals_nil (hn : 0 < n) : goalsL n m [] = Ivs.rg (n * m) := by
  refine List.map_congr_left fun i _ => ?_
  show (i : Int) / n * n + (i : Int) % n = i
  rw [Int.mul_comm]; exact Int.mul_ediv_add_emod _ _
end
end My

set_option Elab.async false
set_option linter.all false
set_option maxRecDepth 100000
set_option maxHeartbeats 8000000
namespace My
open PySem PySem.Spec PyProof.Rows L2 Sx
local macro_rules | `(tactic| walk_at "nb") => `(tactic| first | exact NB.tup | exact NB.ints | exact NB.len (of_decide_eq_true rfl) | exact NB.at0b rfl | exact NB.at3b rfl | exact NB.ins | exact NB.own | exact NB.frz | exact NB.refs (by assumption) | assumption)
local macro_rules | `(tactic| walk_at "ne") => `(tactic| first | assumption | exact Ne.symm (by assumption) | exact ne_of_none (by assumption) (by assumption) | exact Ne.symm (ne_of_none (by assumption) (by assumption)))
local macro_rules | `(tactic| walk_at "hk") => `(tactic| first
  | assumption
  | exact upd_same
  | (refine' (upd_ne ?hkne).trans ?hkq; (case hkne => walk_at "ne"); (case hkq => walk_at "hk"))
  | (refine' Ex.kp (by assumption) _ _ ?hkq ?hkn; (case hkq => walk_at "hk"); (case hkn => walk_at "nb")))
local macro_rules | `(tactic| walk_at "rd1") => `(tactic| first
  | ((with_reducible refine' x_var ?hx ?_); (case hx => exact rfl))
  | with_reducible refine x_c ?_
  | with_reducible refine x_op ?_
  | with_reducible refine x_un ?_
  | with_reducible refine x_I0 ?_
  | with_reducible refine x_U ?_
  | ((with_reducible refine x_I ?hc ?_); (case hc => first | exact (by decide : (0 : Int) < _) | (show (0 : Int) < _; omega) | (show CMul _ _; first | exact .inl ⟨by omega, by omega⟩ | exact .inr ⟨by omega, by omega⟩) | (show CDiv _ _; exact ⟨by omega, by omega⟩) | (show CDivW _ _; exact wide_div (b := 200) (by omega) (by assumption) (by decide) (by decide)) | (show CDivW _ _; exact wide_div (b := 31) (by omega) (by omega) (by decide) (by decide))))
  | with_reducible refine x_EqI ?_
  | with_reducible refine x_NeI ?_
  | ((with_reducible refine x_EqSt ?h ?_); (case h => decide +kernel))
  | ((with_reducible refine x_EqSf ?h ?_); (case h => decide +kernel))
  | ((with_reducible refine x_NeSt ?h ?_); (case h => decide +kernel))
  | ((with_reducible refine x_NeSf ?h ?_); (case h => decide +kernel))
  | with_reducible refine x_EqS ?_
  | with_reducible refine x_NeS ?_
  | ((with_reducible refine' x_ixL ?hq ?hi ?_); (case hq => walk_at "hk"); (case hi => first | exact rfl | assumption))
  | ((with_reducible refine' x_ixT ?hq ?hi ?_); (case hq => walk_at "hk"); (case hi => first | exact rfl | assumption))
  | with_reducible refine x_chain ?_
  | with_reducible refine x_tup ?_
  | with_reducible refine x_lst ?_
  | ((with_reducible refine x_lenNew ?hl ?_); (case hl => exact Nat.le_of_ble_eq_true rfl); intro _ _ _ _ _)
  | ((with_reducible refine x_new ?_); intro _ _ _ _ _)
  | with_reducible refine x_sl ?_
  | with_reducible refine x_noPart ?_
  | with_reducible refine x_part ?_
  | with_reducible refine x_ex_int ?_
  | with_reducible refine x_ex_bl ?_
  | with_reducible refine x_ex_2 ?_
  | with_reducible refine x_test ?_
  | with_reducible refine x_B ?_
  | with_reducible refine x_and ?_
  | with_reducible refine x_or ?_
  | with_reducible refine x_not ?_
  | with_reducible refine x_andV ?_
  | with_reducible refine x_orV ?_
  | with_reducible refine x_notV ?_
  | with_reducible refine x_ifE ?_
  | with_reducible refine x_iteT ?_
  | with_reducible refine x_iteF ?_
  | ((with_reducible refine x_iteD ?_ ?_) <;> intro _)
  | ((with_reducible refine x_iteN ?_ ?_) <;> intro _)
  | with_reducible refine x_if ?_
  | with_reducible refine x_seq ?_
  | with_reducible refine x_next ?_
  | with_reducible refine x_asg ?_
  | with_reducible refine x_gName ?_
  | ((with_reducible refine' x_gTup ?hq ?hn ?_); (case hq => walk_at "hk"); (case hn => exact rfl))
  | with_reducible refine x_gCons ?_
  | with_reducible refine x_gNil ?_
  | ((with_reducible refine' x_gConsE ?h ?_); (case h => exact rfl))
  | ((with_reducible refine x_gNilE ?h ?_); (case h => exact rfl))
  | with_reducible refine x_ret ?_
  | with_reducible refine x_drop ?_
  | with_reducible refine x_par ?_
  | ((with_reducible refine' x_aug ?hx ?_); (case hx => exact rfl))
  | with_reducible refine x_ipI ?_
  | with_reducible refine x_augS ?_
  | with_reducible refine x_gSub ?_
  | ((with_reducible refine' x_setL ?hq ?hi ?_); (case hq => walk_at "hk"); (case hi => first | exact rfl | assumption))
  | with_reducible refine x_cons ?_
  | with_reducible refine x_nil ?_
  | with_reducible refine x_CB ?_
  | with_reducible refine x_abs ?_
  | with_reducible refine x_intI ?_
  | with_reducible refine x_intB ?_
  | ((with_reducible refine' x_lenL ?hq ?_); (case hq => walk_at "hk"))
  | ((with_reducible refine' x_lenT ?hq ?_); (case hq => walk_at "hk"))
  | ((with_reducible refine x_iteTe ?h ?_); (case h => exact rfl))
  | ((with_reducible refine x_iteFe ?h ?_); (case h => exact rfl))
  | walk_at "use"
  | with_reducible refine x_callS ?_
  | ((with_reducible refine x_lc ?_))
  | ((with_reducible refine x_for ?_))
  | ((with_reducible refine x_iR1 ?_))
  | ((with_reducible refine x_iL ?_))
  | ((with_reducible refine x_iZ ?_))
  | ((with_reducible refine x_yes ?_))
  | ((with_reducible refine' x_NIDt ?hq ?_); (case hq => assumption))
  | ((with_reducible refine' x_NIDf ?hq ?_); (case hq => assumption))
  | ((with_reducible refine' x_IIDf ?hq ?_); (case hq => assumption))
  | ((with_reducible refine' x_IIDt ?hq ?_); (case hq => assumption))
  | ((with_reducible refine' x_ixDs ?hd ?hq ?_); (case hd => assumption); (case hq => assumption))
  | ((with_reducible refine x_InSt ?h ?_); (case h => decide +kernel))
  | ((with_reducible refine x_InSf ?h ?_); (case h => decide +kernel))
  | ((with_reducible refine' x_notInI ?hq ?_); (case hq => walk_at "hk"))
  | ((with_reducible refine' x_inTt ?hq ?hv ?ha ?he ?_); (case hq => walk_at "hk"); (case hv => exact rfl); (case ha => exact rfl); (case he => decide +kernel))
  | ((with_reducible refine' x_inTf ?hq ?hv ?ha ?he ?_); (case hq => walk_at "hk"); (case hv => exact rfl); (case ha => exact rfl); (case he => decide +kernel))
  | ((with_reducible refine' x_slT ?hq ?hw ?_); (case hq => walk_at "hk"); (case hw => with_unfolding_all exact of_decide_eq_true rfl))
  | ((with_reducible refine' x_slL ?hq ?_); (case hq => walk_at "hk"))
  | ((with_reducible refine' x_catT ?hq ?hr ?n1 ?n2 ?hl ?_); (case hq => walk_at "hk"); (case hr => walk_at "hk"); (case n1 => exact List.cons_ne_nil _ _); (case n2 => exact List.cons_ne_nil _ _); (case hl => exact Nat.le_of_ble_eq_true rfl))
  | ((with_reducible refine x_bm ?_))
  | ((with_reducible refine x_lstRg ?_))
  | ((with_reducible refine x_rg1 ?_))
  | ((with_reducible refine And.intro ?h ?_); (case h => exact tyL (by assumption)))
  | dsimp only)
local macro_rules | `(tactic| walk_at "use") => `(tactic| fail)
local macro_rules | `(tactic| walk_at "rd") => `(tactic| repeat' (walk_at "rd1"))
local macro_rules | `(tactic| walk_at "ex") => `(tactic| first | exact Ex.refl _ | assumption | (refine' Ex.trans ?he (by assumption); (case he => walk_at "ex")))
local macro_rules | `(tactic| walk_at "rd1") => `(tactic| first
  | ((with_reducible refine x_iteDf ?h ?_); (case h => exact rfl))
  | ((with_reducible refine x_iteDt ?h ?_); (case h => exact rfl))
  | ((with_reducible refine x_iteNf ?h ?_); (case h => exact rfl))
  | ((with_reducible refine x_iteNt ?h ?_); (case h => exact rfl))
  | ((with_reducible refine x_isiI (r := true) ?h ?_); (case h => decide +kernel))
  | ((with_reducible refine x_isiI (r := false) ?h ?_); (case h => decide +kernel))
  | ((with_reducible refine x_isiS (r := true) ?h ?_); (case h => decide +kernel))
  | ((with_reducible refine x_isiS (r := false) ?h ?_); (case h => decide +kernel))
  | ((with_reducible refine x_isiB (r := true) ?h ?_); (case h => decide +kernel))
  | ((with_reducible refine x_isiB (r := false) ?h ?_); (case h => decide +kernel))
  | ((with_reducible refine' x_isiT (r := true) ?hp ?h ?_); (case hp => walk_at "hk"); (case h => decide +kernel))
  | ((with_reducible refine' x_isiT (r := false) ?hp ?h ?_); (case hp => walk_at "hk"); (case h => decide +kernel))
  | ((with_reducible refine' x_isiL (r := true) ?hp ?h ?_); (case hp => walk_at "hk"); (case h => decide +kernel))
  | ((with_reducible refine' x_isiL (r := false) ?hp ?h ?_); (case hp => walk_at "hk"); (case h => decide +kernel))
  | ((with_reducible refine' x_isi2L ?hp ?hl ?_); (case hp => walk_at "hk"); (case hl => walk_at "hk"))
  | ((with_reducible refine' x_isi2T ?hp ?hl ?_); (case hp => walk_at "hk"); (case hl => walk_at "hk"))
  | ((with_reducible refine' x_tupOfL ?hq ?_); (case hq => walk_at "hk"))
  | ((with_reducible refine' x_tupOfT ?hq ?_); (case hq => walk_at "hk"))
  | ((with_reducible refine x_lenS ?h ?_); (case h => exact Nat.le_of_ble_eq_true rfl))
  | ((with_reducible refine' x_all ?hq ?_); (case hq => walk_at "hk"))
  | with_reducible refine x_lenSet ?_)
local macro_rules | `(tactic| walk_at "rd1") => `(tactic| first
  | with_reducible refine Er.x_iR2 ?_
  | with_reducible refine Er.x_iEn ?_
  | with_reducible refine Er.x_cont ?_
  | ((with_reducible refine Er.x_isBt ?h ?_); (case h => exact rfl))
  | ((with_reducible refine Er.x_isBf ?h ?_); (case h => exact rfl))
  | ((with_reducible refine Er.x_isNBt ?h ?_); (case h => exact rfl))
  | ((with_reducible refine Er.x_isNBf ?h ?_); (case h => exact rfl))
  | with_reducible refine Er.x_isB ?_
  | with_reducible refine Er.x_isNB ?_)

open Cl
local macro_rules | `(tactic| walk_at "nb") => `(tactic| first | exact NB.ints | assumption | (refine Ow.Refs.nb ?_; assumption))
local macro_rules | `(tactic| walk_at "rd1") => `(tactic| first
  | with_reducible refine x_iT ?_
  | with_reducible refine x_fld ?_
  | ((with_reducible refine' x_fldK ?h ?c ?n ?l ?_); (case h => walk_at "hk"); (case c => assumption); (case n => assumption); (case l => first | exact rfl | assumption))
  | ((with_reducible refine' x_listOfL ?h ?_); (case h => walk_at "hk")))
local macro_rules | `(tactic| walk_at "use") => `(tactic| first | with_reducible refine u_is_files ?_ | with_reducible refine u_is_rows ?_ | with_reducible refine u_is_integer ?_)
local macro_rules | `(tactic| walk_at "sc") => `(tactic| first | assumption | (refine' Scr.mono ?hscr ?escr; (case hscr => assumption); (case escr => walk_at "ex")))
local macro_rules | `(tactic| walk_at "rd1") => `(tactic| first
  | with_reducible refine x_iT ?_
  | with_reducible refine Ow.x_bm0 ?_
  | with_reducible refine x_make ?_
  | with_reducible refine Ow.x_meth ?_
  | with_reducible refine Ow.x_prop ?_
  | with_reducible refine Ow.x_iOwn ?_
  | ((with_reducible refine' x_methS ?h ?l ?_); (case h => walk_at "sc"); (case l => intro _ _; exact rfl))
  | ((with_reducible refine' x_propS ?h ?_); (case h => walk_at "sc"))
  | ((with_reducible refine' u_sfiles ?h ?_); (case h => walk_at "sc"))
  | ((with_reducible refine' u_ssize ?h ?hl ?_); (case h => walk_at "sc"); (case hl => omega); intro _ _)
  | ((with_reducible refine' u_scalls ?h ?_); (case h => walk_at "sc"); intro _ _ _ _ _ _ _)
  | ((with_reducible refine' u_sstraight ?h ?hl ?_); (case h => walk_at "sc"); (case hl => omega); intro _ _)
  | ((with_reducible refine' x_lenS' ?e ?h ?hl ?_); (case e => exact rfl); (case h => walk_at "sc"); (case hl => omega))
  | ((with_reducible refine' x_listS ?e ?h ?_); (case e => exact rfl); (case h => walk_at "sc"); intro _ _ _ _ _ _ _)
  | ((with_reducible refine' x_eqS ?c ?h ?h' ?_); (case c => assumption); (case h => walk_at "sc"); (case h' => walk_at "sc"))
  | ((with_reducible refine' x_neS ?c ?h ?h' ?_); (case c => assumption); (case h => walk_at "sc"); (case h' => walk_at "sc"))
  | ((with_reducible refine' x_eqSL ?c ?h ?h' ?_); (case c => assumption); (case h => walk_at "sc"); (case h' => walk_at "hk"))
  | ((with_reducible refine' x_eqST ?c ?h ?h' ?_); (case c => assumption); (case h => walk_at "sc"); (case h' => walk_at "hk"))
  | ((with_reducible refine' x_eqSI ?c ?h ?_); (case c => assumption); (case h => walk_at "sc")))
section
variable {P : Program} {w : World} {K : PySem.W.Frag} {mg : Str → Option Value} {base : Heap} {a : Ad} {H H1 : Hp} {Q : VK} {E : XK} {p b c t s dx l : Addr} {fl gl r : Int} {xs ps : List V} {q : C} {qs us : List C} {n m : Nat} {g : Int → Int → Int} {ls : List (List Int)} {CS CL : Addr} {fs : List (Str × V)}
open Er
/-! is_rows of an int -/
def sp_is_rows : Sp := fun vs H Q _ => ∃ r : Int, vs = [.int r] ∧ Q (.bl (decide (1 ≤ r))) H
theorem u_is_rows (k : Q (.bl (decide (1 ≤ r))) H) : sp_is_rows [.int r] H Q E := ⟨r, rfl, k⟩
theorem ok_is_rows (T : Txt K w mg a) : FnOk P w K mg base CX0 2 a.a_is_rows a.fd_is_rows ["thing"] sp_is_rows := by
  refine T.F_is_rows.ok sc_is_rows (fun vs H Q E h => ?_) (fun cdv A outer s H vs Q E hr h => ?_)
  · obtain ⟨r, rfl, _⟩ := h; rfl
  · obtain ⟨r, rfl, k⟩ := h
    have G_is_integer := ok_is_integer (P := P) (base := base) T
    refine ⟨_, (pss_one (ps_ret (pe_and (pe_call G_is_integer (hr.mono (by decide)) (by rfl) T.m_is_integer T.k_is_integer T.b_is_integer .nil pass0 (pa_cons (pv 0) pa_nil)) (pe_one (pe_cmpR op_ge (pv 0) pe_int (nomark _)))))), ?_⟩
    walk_at "rd"
    exact k
/-! is_call of a Script -/
def sp_is_callS (CS : Addr) : Sp := fun vs H Q _ => ∃ (fl : Int) (s dx : Addr) (fs : List (Str × V)), vs = [.int fl, .ref s] ∧ H s = some (.ins CS dx fs) ∧ Q (.bl false) H
/-! a line that stands -/
def lflds (n m : Nat) (l : Addr) : List (Str × V) := putF "standing" (.ref l) (putF "depth" (.int (m : Int)) (putF "width" (.int (n : Int)) []))
theorem lflds_put (n m : Nat) (l l' : Addr) : putF "standing" (.ref l') (lflds n m l) = lflds n m l' := rfl
theorem lflds_len (n m : Nat) (l : Addr) : (lflds n m l).length < 1000 := by show 3 < 1000; decide
def Lin (CL : Addr) (H : Hp) (s : Addr) (n m : Nat) (g : Int → Int → Int) : Prop := ∃ dx l, H s = some (.ins CL dx (lflds n m l)) ∧ H l = some (.lst ((ord n m g).map V.int))
theorem Lin.mono (h : Lin CL H s n m g) (e : Ex H H1) : Lin CL H1 s n m g := by
  obtain ⟨dx, l, h1, h2⟩ := h
  exact ⟨dx, l, e.kp _ _ h1 NB.ins, e.kp _ _ h2 NB.ints⟩
/-- all but one object stays -/
structure Exs (s : Addr) (H H1 : Hp) : Prop where
  kp : ∀ a o, a ≠ s → H a = some o → NB o → H1 a = some o
  bg : ∀ b c, BagC b c H → BagC b c H1
theorem Exs.of {s : Addr} {o o1 : HO} (e : Ex H H1) (h : H s = some o1) (ho : ∀ x y z c, o1 ≠ .lst [.int x, .int y, .int z, .ref c]) (hi : ∀ ns : List Int, o1 ≠ .lst (ns.map V.int)) : Exs s H (L2.upd H1 s o) := by
  refine ⟨fun a o' n q nb => by rw [upd_ne n]; exact e.kp a o' q nb, fun b c q => ?_⟩
  obtain ⟨x0, y0, z0, ns0, k1, k2, _⟩ := id q
  obtain ⟨x, y, z, ns, e1, e2, r⟩ := e.bg b c q
  have hb : b ≠ s := fun ea => by subst ea; rw [k1] at h; exact ho _ _ _ _ (Option.some.inj h).symm
  have hc : c ≠ s := fun ea => by subst ea; rw [k2] at h; exact hi _ (Option.some.inj h).symm
  exact ⟨x, y, z, ns, by rw [upd_ne hb]; exact e1, by rw [upd_ne hc]; exact e2, r⟩
theorem ord0 (hn : 0 < n) : ord n m (num0 n) = (List.range (n * m)).map fun i : Nat => (i : Int) := by
  refine List.map_congr_left fun i _ => ?_
  show (i : Int) / n * n + (i : Int) % n = i
  rw [Int.mul_comm]
  exact Int.mul_ediv_add_emod _ _
theorem rg_ints {k : Nat} : rgV 0 (k : Int) = ((List.range k).map fun i : Nat => (i : Int)).map V.int := by
  unfold rgV
  rw [List.map_map, Int.sub_zero, Int.toNat_natCast]
  refine List.map_congr_left fun i _ => ?_
  show V.int (0 + (i : Int)) = V.int (i : Int)
  rw [Int.zero_add]
def sp_Line_init (CL : Addr) : Sp := fun vs H Q _ => ∃ (H0 : Hp) (x dx : Addr) (n m : Nat), vs = [.ref x, .int (n : Int), .int (m : Int)] ∧ H = upd (upd H0 dx (.own x)) x (.ins CL dx []) ∧ H0 x = none ∧ H0 dx = none ∧ dx ≠ x ∧ Sz n m ∧ m ≤ 400 ∧ ∀ H1, Ex H0 H1 → Lin CL H1 x n m (num0 n) → Q .non H1
theorem u_makeL {Q : Addr → Hp → Prop} (hz : Sz n m) (hm : m ≤ 400) (k : ∀ x H1, Ex H H1 → H x = none → Lin CL H1 x n m (num0 n) → Q x H1) :
    ∀ x dx, H x = none → H dx = none → dx ≠ x → sp_Line_init CL (.ref x :: [.int (n : Int), .int (m : Int)]) (upd (upd H dx (.own x)) x (.ins CL dx [])) (fun v H2 => v = .non ∧ Q x H2) E :=
  fun x dx hx hdx hn => ⟨H, x, dx, n, m, rfl, rfl, hx, hdx, hn, hz, hm, fun H1 e h1 => ⟨rfl, k x H1 e hx h1⟩⟩
theorem ok_Line_init (T : Txt K w mg a) : FnOk P w K mg base CX0 3 a.a_Line_init a.fd_Line_init ["self", "files", "rows"] (sp_Line_init a.c_Line) := by
  refine T.F_Line_init.ok sc_Line_init (fun vs H Q E h => ?_) (fun cdv A outer s H vs Q E hr h => ?_)
  · obtain ⟨H0, x, dx, n, m, rfl, _⟩ := h; rfl
  · obtain ⟨H0, x, dx, n, m, rfl, rfl, hx, hdx, hne, hz, hm4, k⟩ := h
    have hnm := hz.lt
    have n0 := hz.n0
    have t2 : (2 : Int) ≤ n ∧ (n : Int) ≤ 3 := by rcases hz.1 with rfl | rfl <;> decide
    obtain ⟨hn, hm, hm1⟩ := hz
    have hx1 : (upd H0 dx (.own x)) x = none := by rw [upd_ne hne.symm]; exact hx
    have e0 : Ex H0 (upd (upd H0 dx (.own x)) x (.ins a.c_Line dx [])) := (Ex.new hdx).trans (Ex.new hx1)
    have G_is_files := ok_is_files (P := P) (base := base) T
    have G_is_rows := ok_is_rows (P := P) (base := base) T
    have hxI : (upd (upd H0 dx (.own x)) x (.ins a.c_Line dx [])) x = some (.ins a.c_Line dx []) := upd_same
    generalize (upd (upd H0 dx (.own x)) x (.ins a.c_Line dx [])) = HI at e0 hxI ⊢
    refine ⟨_, (pss_cons (ps_if (pt_not (pt_val (pe_call G_is_files (hr.mono (by decide)) (by rfl) T.m_is_files T.k_is_files T.b_is_files .nil pass0 (pa_cons (pv 1) pa_nil)))) (pss_one ps_never) pss_nil)
      (pss_cons (ps_if (PW.pt (pw_or (pt_not (pt_val (pe_call G_is_rows (hr.mono (by decide)) (by rfl) T.m_is_rows T.k_is_rows T.b_is_rows .nil pass0 (pa_cons (pv 2) pa_nil)))) (pw_or1 (pt_cmpR op_gt (pv 2) (pe_glob (v := .int 400) (by rfl) T.g_MOST_ROWS.choose_spec ⟨_, rfl⟩) (nomark _))))) (pss_one ps_never) pss_nil)
      (pss_cons (ps_fld (pv 0) (pv 1) rfl)
      (pss_cons (ps_fld (pv 0) (pv 2) rfl)
      (pss_one (ps_fld (pv 0) (pe_listRg rfl (by rfl) T.n_list (prg_1 (by rfl) T.n_range (pe_op op_mul (pv 1) (pv 2)))) rfl)))))), ?_⟩
    walk_at "rd"
    all_goals try (exfalso; omega)
    refine u_is_rows ?_
    walk_at "rd"
    all_goals try (exfalso; omega)
    have cl := T.t_Line.cl
    refine x_setF ?_
    walk_at "rd"
    refine x_setK hxI cl T.A_Line_width (by decide) ?_
    have e1 : Ex H0 (upd HI x (.ins a.c_Line dx (putF "width" (.int n) []))) := Ex.mut e0 hx
    have h1 : upd HI x (.ins a.c_Line dx (putF "width" (.int n) [])) x = some (.ins a.c_Line dx (putF "width" (.int n) [])) := upd_same
    generalize upd HI x (.ins a.c_Line dx (putF "width" (.int n) [])) = HA at e1 h1 ⊢
    walk_at "rd"
    refine x_setF ?_
    walk_at "rd"
    refine x_setK h1 cl T.A_Line_depth (by show 1 < 1000; decide) ?_
    have e2 : Ex H0 (upd HA x (.ins a.c_Line dx (putF "depth" (.int m) (putF "width" (.int n) [])))) := Ex.mut e1 hx
    have h2 : upd HA x (.ins a.c_Line dx (putF "depth" (.int m) (putF "width" (.int n) []))) x = some (.ins a.c_Line dx (putF "depth" (.int m) (putF "width" (.int n) []))) := upd_same
    generalize upd HA x (.ins a.c_Line dx (putF "depth" (.int m) (putF "width" (.int n) []))) = HB at e2 h2 ⊢
    walk_at "rd"
    refine x_setF ?_
    walk_at "rd"
    rw [← Int.natCast_mul]
    refine ⟨RgOk.of_le (by omega) (by omega) (by omega) (by omega), x_new fun t H3 e3 f3 h3 => ?_⟩
    rw [rg_ints, ← ord0 n0] at h3
    walk_at "rd"
    refine x_setK (e3.kp _ _ h2 NB.ins) cl T.A_Line_standing (by show 2 < 1000; decide) ?_
    have ne : t ≠ x := fun e => by rw [e] at f3; rw [f3] at h2; cases h2
    exact k _ (Ex.mut (e2.trans e3) hx) ⟨dx, t, upd_same, by rw [upd_ne ne]; exact h3⟩
/-! order() -/
def sp_Line_order (CL : Addr) : Sp := fun vs H Q _ => ∃ (s : Addr) (n m : Nat) (g : Int → Int → Int), vs = [.ref s] ∧ Lin CL H s n m g ∧ ∀ t H1, Ex H H1 → H t = none → H1 t = some (.lst ((ord n m g).map V.int)) → Q (.ref t) H1
theorem ok_Line_order (T : Txt K w mg a) : FnOk P w K mg base CX0 1 a.a_Line_order a.fd_Line_order ["self"] (sp_Line_order a.c_Line) := by
  refine T.F_Line_order.ok sc_Line_order (fun vs H Q E h => ?_) (fun cdv A outer s H vs Q E hr h => ?_)
  · obtain ⟨s, n, m, g, rfl, _⟩ := h; rfl
  · obtain ⟨s, n, m, g, rfl, ⟨dx, l, h1, h2⟩, k⟩ := h
    have cl := T.t_Line.cl
    have ns := T.A_Line_standing
    refine ⟨_, (pss_one (ps_ret (pe_callTy c_listOf (by rfl) T.n_list (by decide +kernel) (pa_cons (pe_fld (pv 0) rfl) pa_nil)))), ?_⟩
    walk_at "rd"
    rename_i t H3 e3 f3 h3
    exact k t H3 e3 f3 h3
/-! do(script) -/
theorem back_tab (hz : Sz n m) : (tab n m fun r f => (fun i : Int => g (i / n) (i % n)) (r * n + f)) = tab n m g := by
  have n0 := hz.n0
  refine tab_congr fun r f _ _ f0 f1 => ?_
  show g ((r * n + f) / n) ((r * n + f) % n) = g r f
  rw [ediv_of ⟨f0, f1⟩, emod_of ⟨f0, f1⟩]
def sp_Line_doS (CS CL : Addr) : Sp := fun vs H Q _ => ∃ (s t : Addr) (n m : Nat) (g : Int → Int → Int) (qs : List C), vs = [.ref s, .ref t] ∧ Lin CL H s n m g ∧ Scr CS H t n qs ∧ (∀ q ∈ qs, q.ok n) ∧ Sz n m ∧ ∀ H1, Exs s H H1 → Lin CL H1 s n m (ledg qs n m g) → Q .non H1
/-! calls on a Line -/
theorem x_methL {mm : Str} {sp : Sp} {ta : TA} {σ : L2.St} (h : Lin CL H s n m g) (l : ∀ l, (lflds n m l).lookup mm = none) (k : ta σ H fun vs H2 => sp (.ref s :: vs) H2 Q E) : Ow.MethK CL mm sp E ta σ (.ref s) H Q := by
  obtain ⟨dx, t, h1, _⟩ := h
  exact ⟨s, dx, _, rfl, h1, l _, k⟩
end
end My

set_option Elab.async false
set_option linter.all false
set_option maxRecDepth 100000
set_option maxHeartbeats 8000000
namespace My
open PySem PySem.Spec PyProof.Rows L2 Sx
local macro_rules | `(tactic| walk_at "nb") => `(tactic| first | exact NB.tup | exact NB.ints | exact NB.len (of_decide_eq_true rfl) | exact NB.at0b rfl | exact NB.at3b rfl | exact NB.ins | exact NB.own | exact NB.frz | exact NB.refs (by assumption) | assumption)
local macro_rules | `(tactic| walk_at "ne") => `(tactic| first | assumption | exact Ne.symm (by assumption) | exact ne_of_none (by assumption) (by assumption) | exact Ne.symm (ne_of_none (by assumption) (by assumption)))
local macro_rules | `(tactic| walk_at "hk") => `(tactic| first
  | assumption
  | exact upd_same
  | (refine' (upd_ne ?hkne).trans ?hkq; (case hkne => walk_at "ne"); (case hkq => walk_at "hk"))
  | (refine' Ex.kp (by assumption) _ _ ?hkq ?hkn; (case hkq => walk_at "hk"); (case hkn => walk_at "nb")))
local macro_rules | `(tactic| walk_at "rd1") => `(tactic| first
  | ((with_reducible refine' x_var ?hx ?_); (case hx => exact rfl))
  | with_reducible refine x_c ?_
  | with_reducible refine x_op ?_
  | with_reducible refine x_un ?_
  | with_reducible refine x_I0 ?_
  | with_reducible refine x_U ?_
  | ((with_reducible refine x_I ?hc ?_); (case hc => first | exact (by decide : (0 : Int) < _) | (show (0 : Int) < _; omega) | (show CMul _ _; first | exact .inl ⟨by omega, by omega⟩ | exact .inr ⟨by omega, by omega⟩) | (show CDiv _ _; exact ⟨by omega, by omega⟩) | (show CDivW _ _; exact wide_div (b := 200) (by omega) (by assumption) (by decide) (by decide)) | (show CDivW _ _; exact wide_div (b := 31) (by omega) (by omega) (by decide) (by decide))))
  | with_reducible refine x_EqI ?_
  | with_reducible refine x_NeI ?_
  | ((with_reducible refine x_EqSt ?h ?_); (case h => decide +kernel))
  | ((with_reducible refine x_EqSf ?h ?_); (case h => decide +kernel))
  | ((with_reducible refine x_NeSt ?h ?_); (case h => decide +kernel))
  | ((with_reducible refine x_NeSf ?h ?_); (case h => decide +kernel))
  | with_reducible refine x_EqS ?_
  | with_reducible refine x_NeS ?_
  | ((with_reducible refine' x_ixL ?hq ?hi ?_); (case hq => walk_at "hk"); (case hi => first | exact rfl | assumption))
  | ((with_reducible refine' x_ixT ?hq ?hi ?_); (case hq => walk_at "hk"); (case hi => first | exact rfl | assumption))
  | with_reducible refine x_chain ?_
  | with_reducible refine x_tup ?_
  | with_reducible refine x_lst ?_
  | ((with_reducible refine x_lenNew ?hl ?_); (case hl => exact Nat.le_of_ble_eq_true rfl); intro _ _ _ _ _)
  | ((with_reducible refine x_new ?_); intro _ _ _ _ _)
  | with_reducible refine x_sl ?_
  | with_reducible refine x_noPart ?_
  | with_reducible refine x_part ?_
  | with_reducible refine x_ex_int ?_
  | with_reducible refine x_ex_bl ?_
  | with_reducible refine x_ex_2 ?_
  | with_reducible refine x_test ?_
  | with_reducible refine x_B ?_
  | with_reducible refine x_and ?_
  | with_reducible refine x_or ?_
  | with_reducible refine x_not ?_
  | with_reducible refine x_andV ?_
  | with_reducible refine x_orV ?_
  | with_reducible refine x_notV ?_
  | with_reducible refine x_ifE ?_
  | with_reducible refine x_iteT ?_
  | with_reducible refine x_iteF ?_
  | ((with_reducible refine x_iteD ?_ ?_) <;> intro _)
  | ((with_reducible refine x_iteN ?_ ?_) <;> intro _)
  | with_reducible refine x_if ?_
  | with_reducible refine x_seq ?_
  | with_reducible refine x_next ?_
  | with_reducible refine x_asg ?_
  | with_reducible refine x_gName ?_
  | ((with_reducible refine' x_gTup ?hq ?hn ?_); (case hq => walk_at "hk"); (case hn => exact rfl))
  | with_reducible refine x_gCons ?_
  | with_reducible refine x_gNil ?_
  | ((with_reducible refine' x_gConsE ?h ?_); (case h => exact rfl))
  | ((with_reducible refine x_gNilE ?h ?_); (case h => exact rfl))
  | with_reducible refine x_ret ?_
  | with_reducible refine x_drop ?_
  | with_reducible refine x_par ?_
  | ((with_reducible refine' x_aug ?hx ?_); (case hx => exact rfl))
  | with_reducible refine x_ipI ?_
  | with_reducible refine x_augS ?_
  | with_reducible refine x_gSub ?_
  | ((with_reducible refine' x_setL ?hq ?hi ?_); (case hq => walk_at "hk"); (case hi => first | exact rfl | assumption))
  | with_reducible refine x_cons ?_
  | with_reducible refine x_nil ?_
  | with_reducible refine x_CB ?_
  | with_reducible refine x_abs ?_
  | with_reducible refine x_intI ?_
  | with_reducible refine x_intB ?_
  | ((with_reducible refine' x_lenL ?hq ?_); (case hq => walk_at "hk"))
  | ((with_reducible refine' x_lenT ?hq ?_); (case hq => walk_at "hk"))
  | ((with_reducible refine x_iteTe ?h ?_); (case h => exact rfl))
  | ((with_reducible refine x_iteFe ?h ?_); (case h => exact rfl))
  | walk_at "use"
  | with_reducible refine x_callS ?_
  | ((with_reducible refine x_lc ?_))
  | ((with_reducible refine x_for ?_))
  | ((with_reducible refine x_iR1 ?_))
  | ((with_reducible refine x_iL ?_))
  | ((with_reducible refine x_iZ ?_))
  | ((with_reducible refine x_yes ?_))
  | ((with_reducible refine' x_NIDt ?hq ?_); (case hq => assumption))
  | ((with_reducible refine' x_NIDf ?hq ?_); (case hq => assumption))
  | ((with_reducible refine' x_IIDf ?hq ?_); (case hq => assumption))
  | ((with_reducible refine' x_IIDt ?hq ?_); (case hq => assumption))
  | ((with_reducible refine' x_ixDs ?hd ?hq ?_); (case hd => assumption); (case hq => assumption))
  | ((with_reducible refine x_InSt ?h ?_); (case h => decide +kernel))
  | ((with_reducible refine x_InSf ?h ?_); (case h => decide +kernel))
  | ((with_reducible refine' x_notInI ?hq ?_); (case hq => walk_at "hk"))
  | ((with_reducible refine' x_inTt ?hq ?hv ?ha ?he ?_); (case hq => walk_at "hk"); (case hv => exact rfl); (case ha => exact rfl); (case he => decide +kernel))
  | ((with_reducible refine' x_inTf ?hq ?hv ?ha ?he ?_); (case hq => walk_at "hk"); (case hv => exact rfl); (case ha => exact rfl); (case he => decide +kernel))
  | ((with_reducible refine' x_slT ?hq ?hw ?_); (case hq => walk_at "hk"); (case hw => with_unfolding_all exact of_decide_eq_true rfl))
  | ((with_reducible refine' x_slL ?hq ?_); (case hq => walk_at "hk"))
  | ((with_reducible refine' x_catT ?hq ?hr ?n1 ?n2 ?hl ?_); (case hq => walk_at "hk"); (case hr => walk_at "hk"); (case n1 => exact List.cons_ne_nil _ _); (case n2 => exact List.cons_ne_nil _ _); (case hl => exact Nat.le_of_ble_eq_true rfl))
  | ((with_reducible refine x_bm ?_))
  | ((with_reducible refine x_lstRg ?_))
  | ((with_reducible refine x_rg1 ?_))
  | ((with_reducible refine And.intro ?h ?_); (case h => exact tyL (by assumption)))
  | dsimp only)
local macro_rules | `(tactic| walk_at "use") => `(tactic| fail)
local macro_rules | `(tactic| walk_at "rd") => `(tactic| repeat' (walk_at "rd1"))
local macro_rules | `(tactic| walk_at "ex") => `(tactic| first | exact Ex.refl _ | assumption | (refine' Ex.trans ?he (by assumption); (case he => walk_at "ex")))
local macro_rules | `(tactic| walk_at "rd1") => `(tactic| first
  | ((with_reducible refine x_iteDf ?h ?_); (case h => exact rfl))
  | ((with_reducible refine x_iteDt ?h ?_); (case h => exact rfl))
  | ((with_reducible refine x_iteNf ?h ?_); (case h => exact rfl))
  | ((with_reducible refine x_iteNt ?h ?_); (case h => exact rfl))
  | ((with_reducible refine x_isiI (r := true) ?h ?_); (case h => decide +kernel))
  | ((with_reducible refine x_isiI (r := false) ?h ?_); (case h => decide +kernel))
  | ((with_reducible refine x_isiS (r := true) ?h ?_); (case h => decide +kernel))
  | ((with_reducible refine x_isiS (r := false) ?h ?_); (case h => decide +kernel))
  | ((with_reducible refine x_isiB (r := true) ?h ?_); (case h => decide +kernel))
  | ((with_reducible refine x_isiB (r := false) ?h ?_); (case h => decide +kernel))
  | ((with_reducible refine' x_isiT (r := true) ?hp ?h ?_); (case hp => walk_at "hk"); (case h => decide +kernel))
  | ((with_reducible refine' x_isiT (r := false) ?hp ?h ?_); (case hp => walk_at "hk"); (case h => decide +kernel))
  | ((with_reducible refine' x_isiL (r := true) ?hp ?h ?_); (case hp => walk_at "hk"); (case h => decide +kernel))
  | ((with_reducible refine' x_isiL (r := false) ?hp ?h ?_); (case hp => walk_at "hk"); (case h => decide +kernel))
  | ((with_reducible refine' x_isi2L ?hp ?hl ?_); (case hp => walk_at "hk"); (case hl => walk_at "hk"))
  | ((with_reducible refine' x_isi2T ?hp ?hl ?_); (case hp => walk_at "hk"); (case hl => walk_at "hk"))
  | ((with_reducible refine' x_tupOfL ?hq ?_); (case hq => walk_at "hk"))
  | ((with_reducible refine' x_tupOfT ?hq ?_); (case hq => walk_at "hk"))
  | ((with_reducible refine x_lenS ?h ?_); (case h => exact Nat.le_of_ble_eq_true rfl))
  | ((with_reducible refine' x_all ?hq ?_); (case hq => walk_at "hk"))
  | with_reducible refine x_lenSet ?_)

local macro_rules | `(tactic| walk_at "bg") => `(tactic| first | assumption | exact Ex.bag (by assumption) (by walk_at "bg"))
local macro_rules | `(tactic| walk_at "use") => `(tactic| ((with_reducible refine' u_Ltake ?hb ?h0 ?h1 ?_); (case hb => walk_at "bg"); (case h0 => omega); (case h1 => omega); intro _ _ _ _ _))
local macro_rules | `(tactic| walk_at "nb") => `(tactic| exact NB.strs)
section
variable {P : Program} {w : World} {K : PySem.W.Frag} {mg : Str → Option Value} {base : Heap} {a : Ad} {H H1 : Hp} {Q : VK} {E : XK} {p b c t s : Addr} {fs n : Int} {xs : List V} {q : C} {qs us : List C}
/-! a call's size as the law says it -/
theorem C.at0 : atI q.vals 0 = some (.str q.word) := by cases q <;> rfl
def C.hasK : C → Bool
  | .all _ => true | .up _ _ => true | .wheel _ _ _ => true | _ => false
def C.kk : C → Int
  | .all k => k | .up _ k => k | .wheel _ _ k => k | _ => 0
theorem C.atK (h : q.hasK = true) : atI q.vals (-1) = some (.int q.kk) := by cases q <;> first | rfl | cases h
theorem C.sizeK (h : q.hasK = true) : q.size = if q.kk < 0 then -q.kk else q.kk := by cases q <;> first | rfl | cases h
theorem C.size1 (h : q.hasK = false) : q.size = 1 := by cases q <;> first | rfl | cases h
theorem C.inK : inV (.str q.word) [.str "all", .str "up", .str "wheel"] = q.hasK := by cases q <;> simp only [C.word, C.hasK] <;> decide +kernel
theorem x_inK {l : Addr} (h : H l = some (.tup [.str "all", .str "up", .str "wheel"])) (k : Q (.bl q.hasK) H) : rIn K false (.str q.word) (.ref l) H Q := ⟨l, _, rfl, .inr (SqT.of h), rfl, rfl, by rw [if_neg Bool.false_ne_true, C.inK]; exact k⟩
/-- abs(call[-1]) if call[0] in ('all', 'up', 'wheel') else 1 -/
theorem x_sizeE {σ : L2.St} {i : Nat} (hx : σ[i]? = some (some (.ref p))) (hp : H p = some (.tup q.vals)) (k : ∀ H1, Ex H H1 → Q (.int q.size) H1) :
    tIf (tTest (tOp (rIn K false) (tOp (rIxT K) (tVar i) (tC (.int 0))) (tTup (tCons (tC (.str "all")) (tCons (tC (.str "up")) (tCons (tC (.str "wheel")) tNil)))))) (tCB rAbs (tCons (tOp (rIxT K) (tVar i) (tUn (rU fun i => .int (-i)) (tC (.int 1)))) tNil)) (tC (.int 1)) σ H Q := by
  walk_at "rd"
  refine x_var hx ?_
  walk_at "rd"
  refine x_ixT hp C.at0 ?_
  walk_at "rd"
  refine' x_inK ?hq ?_; (case hq => walk_at "hk")
  walk_at "rd"
  refine x_iteB (fun hK => ?_) (fun hK => ?_)
  · walk_at "rd"
    refine x_var hx ?_
    walk_at "rd"
    refine' x_ixT ?hq (C.atK hK) ?_; (case hq => walk_at "hk")
    walk_at "rd"
    rw [← C.sizeK hK]
    exact k _ (by walk_at "ex")
  · walk_at "rd"
    rw [← C.size1 hK]
    exact k _ (by walk_at "ex")
theorem C.size_pos {fl : Int} (h : q.Good fl) : 1 ≤ q.size := by
  obtain ⟨_, _, hk⟩ := h
  cases q <;> simp only [C.size, C.kOk] at hk ⊢ <;> (try split) <;> omega
/-! drawn calls -/
/-- what is drawn: calls for so many files, small ones -/
def Drawn (fs : Int) (qs : List C) : Prop := ∀ q ∈ qs, q.ok fs ∧ q.kAbs ≤ 8
def sp_Lcalls : Sp := fun vs H Q _ => ∃ (b ks : Addr) (fs n : Int) (ws : List Str), vs = [.ref b, .int fs, .ref ks, .int n] ∧ Bag b H ∧ (fs = 2 ∨ fs = 3) ∧ H ks = some (.lst (ws.map V.str)) ∧ 0 < ws.length ∧ ws.length ≤ 1000 ∧ (∀ x ∈ ws, x ∈ ten) ∧ 0 ≤ n ∧ n ≤ 1000 ∧
  ∀ p xs qs H1, Ex H H1 → H p = none → H1 p = some (.lst xs) → Cls H1 xs qs → Drawn fs qs → qs.length ≤ n.toNat → qs.length ≤ 15 → Q (.ref p) H1
theorem u_Lcalls {ks : Addr} (ws : List Str) (hb : Bag b H) (h0 : fs = 2 ∨ fs = 3) (h1 : H ks = some (.lst (ws.map V.str))) (h2 : 0 < ws.length) (h3 : ws.length ≤ 1000) (h4 : ∀ x ∈ ws, x ∈ ten) (h5 : 0 ≤ n) (h6 : n ≤ 1000)
    (k : ∀ p xs qs H1, Ex H H1 → H p = none → H1 p = some (.lst xs) → Cls H1 xs qs → Drawn fs qs → qs.length ≤ n.toNat → qs.length ≤ 15 → Q (.ref p) H1) : sp_Lcalls [.ref b, .int fs, .ref ks, .int n] H Q E := ⟨b, ks, fs, n, ws, rfl, hb, h0, h1, h2, h3, h4, h5, h6, k⟩
theorem ok_Lcalls (T : Txt K w mg a) : FnOk P w K mg base CX0 5 a.a_Lcalls a.fd_Lcalls ["_law_bag_here", "_law_files", "_law_kinds", "_law_many"] sp_Lcalls := by
  refine T.F_Lcalls.ok sc_Lcalls (fun vs H Q E h => ?_) (fun cdv A outer s H vs Q E hr h => ?_)
  · obtain ⟨b, ks, fs, n, ws, rfl, _⟩ := h; rfl
  · obtain ⟨b, ks, fs, n, ws, rfl, hb, hfs, hk, l0, l1, ht, n0, n1, k⟩ := h
    have G_Lcall := ok_Lcall (P := P) (base := base) T
    refine ⟨_, (pss_cons (ps_par (i := 4) (j := 5) rfl sc_Lcalls.nd rfl rfl (by decide) rfl rfl (pa_cons (pe_lst pa_nil) (pa_cons pe_int pa_nil)) rfl)
      (pss_cons (ps_for PassesOwn.never rfl (pi_range1 (by rfl) T.n_range (pa_cons (pv 3) pa_nil)) (pg_name (i := 6) sc_Lcalls.nd rfl (Or.inl rfl)) (pss_cons (ps_set (i := 7) sc_Lcalls.nd rfl (Or.inl rfl) (pe_call G_Lcall (hr.mono (by decide)) (by rfl) T.m_Lcall T.k_Lcall T.b_Lcall .nil pass0 (pa_cons (pv 0) (pa_cons (pv 1) (pa_cons (pv 2) (pa_cons pe_int pa_nil))))))
      (pss_cons (ps_set (i := 8) sc_Lcalls.nd rfl (Or.inl rfl) (pe_ifExp (pt_cmpR op_in_seq (pe_ix ix_tup (pv 7) pe_int (fun _ _ => rfl)) (pe_tup (pa_cons pe_str (pa_cons pe_str (pa_cons pe_str pa_nil)))) (by rfl)) (pe_callB c_abs (by rfl) T.n_abs (by decide +kernel) (pa_cons (pe_ix ix_tup (pv 7) (pe_un un_neg pe_int) (fun _ _ => rfl)) pa_nil)) pe_int))
      (pss_one (ps_if (pt_cmpR op_le (pv 8) (pv 5) (nomark _)) (pss_cons (ps_expr (pe_bm PySem.F.plainAttrs_list PySem.F.slot_list_append PySem.F.type_list_append mt_append (pv 4) (pa_cons (pv 7) pa_nil)))
      (pss_one (ps_aug (i := 5) sc_Lcalls.nd rfl (Or.inl rfl) (pv 8) ip_sub))) pss_nil)))))
      (pss_one (ps_ret (pv 4))))), ?_⟩
    walk_at "rd"
    rename_i l H1 e1 f1 h1
    refine for_rng (m := n) (by omega) (by omega) (fun i σ H' => ∃ (xs : List V) (qs : List C) (left : Int) (v6 v7 v8 : Option V), σ = [some (.ref b), some (.int fs), some (.ref ks), some (.int n), some (.ref l), some (.int left), v6, v7, v8] ∧ Ex H H' ∧ H' l = some (.lst xs) ∧ Cls H' xs qs ∧ Drawn fs qs ∧ qs.length ≤ i ∧ 0 ≤ left ∧ (qs.length : Int) ≤ 15 - left)
      ⟨[], [], 15, none, none, none, rfl, e1, h1, .nil, (by intro q hq; cases hq), Nat.zero_le _, by decide, by decide⟩ (fun i σ H2 hi h => ?_) (fun σ H2 h => ?_)
    · obtain ⟨xs, qs, left, v6, v7, v8, rfl, e, hL, hc, hd, hn, hl0, hl⟩ := h
      walk_at "rd"
      refine u_Lcall ws (by walk_at "bg") hfs (e.kp _ _ hk NB.strs) l0 l1 ht (by decide) (by decide) fun p1 q H3 e3 h3 ok hkb => ?_
      refine x_seq (x_asg (x_ifE ?_))
      refine x_sizeE rfl h3 fun H4 e4 => ?_
      have hL4 := (e3.trans e4).kp _ _ hL hc.nb
      have hc4 := hc.ex (e3.trans e4)
      have h34 := e4.kp _ _ h3 NB.tup
      have sp := C.size_pos ok.good
      walk_at "rd"
      · rename_i hle
        refine Er.x_append hL4 (by rw [hc.len]; exact Nat.lt_of_le_of_lt (show qs.length ≤ 15 by omega) (by decide)) ?_
        have e5 : Ex H (upd H4 l (.lst (xs ++ [.ref p1]))) := Ex.mut (e.trans (e3.trans e4)) f1
        have hne : p1 ≠ l := ne_of h34 hL4 (by simp)
        have tx : Tx H4 (upd H4 l (.lst (xs ++ [.ref p1]))) := Tx.set hL4
        walk_at "rd"
        refine ⟨xs ++ [.ref p1], qs ++ [q], left - q.size, _, _, _, rfl, e5, upd_same, (hc4.one h34).mono tx, ?_, by simp; omega, by omega, by simp; omega⟩
        intro q' hq'
        rcases List.mem_append.mp hq' with hq' | hq'
        · exact hd q' hq'
        · rw [List.mem_singleton.mp hq']
          exact ⟨ok, by simpa using hkb⟩
      · exact ⟨xs, qs, left, _, _, _, rfl, e.trans (e3.trans e4), hL4, hc4, hd, by omega, hl0, hl⟩
    · obtain ⟨xs, qs, left, v6, v7, v8, rfl, e, hL, hc, hd, hn, hl0, hl⟩ := h
      walk_at "rd"
      exact k l xs qs H2 e f1 hL hc hd hn (by omega)
end
end My

set_option Elab.async false
set_option linter.all false
set_option maxRecDepth 100000
set_option maxHeartbeats 8000000
namespace My
open PySem PySem.Spec PyProof.Rows L2 Sx
local macro_rules | `(tactic| walk_at "nb") => `(tactic| first | exact NB.tup | exact NB.ints | exact NB.len (of_decide_eq_true rfl) | exact NB.at0b rfl | exact NB.at3b rfl | exact NB.ins | exact NB.own | exact NB.frz | exact NB.refs (by assumption) | assumption)
local macro_rules | `(tactic| walk_at "ne") => `(tactic| first | assumption | exact Ne.symm (by assumption) | exact ne_of_none (by assumption) (by assumption) | exact Ne.symm (ne_of_none (by assumption) (by assumption)))
local macro_rules | `(tactic| walk_at "hk") => `(tactic| first
  | assumption
  | exact upd_same
  | (refine' (upd_ne ?hkne).trans ?hkq; (case hkne => walk_at "ne"); (case hkq => walk_at "hk"))
  | (refine' Ex.kp (by assumption) _ _ ?hkq ?hkn; (case hkq => walk_at "hk"); (case hkn => walk_at "nb")))
local macro_rules | `(tactic| walk_at "rd1") => `(tactic| first
  | ((with_reducible refine' x_var ?hx ?_); (case hx => exact rfl))
  | with_reducible refine x_c ?_
  | with_reducible refine x_op ?_
  | with_reducible refine x_un ?_
  | with_reducible refine x_I0 ?_
  | with_reducible refine x_U ?_
  | ((with_reducible refine x_I ?hc ?_); (case hc => first | exact (by decide : (0 : Int) < _) | (show (0 : Int) < _; omega) | (show CMul _ _; first | exact .inl ⟨by omega, by omega⟩ | exact .inr ⟨by omega, by omega⟩) | (show CDiv _ _; exact ⟨by omega, by omega⟩) | (show CDivW _ _; exact wide_div (b := 200) (by omega) (by assumption) (by decide) (by decide)) | (show CDivW _ _; exact wide_div (b := 31) (by omega) (by omega) (by decide) (by decide))))
  | with_reducible refine x_EqI ?_
  | with_reducible refine x_NeI ?_
  | ((with_reducible refine x_EqSt ?h ?_); (case h => decide +kernel))
  | ((with_reducible refine x_EqSf ?h ?_); (case h => decide +kernel))
  | ((with_reducible refine x_NeSt ?h ?_); (case h => decide +kernel))
  | ((with_reducible refine x_NeSf ?h ?_); (case h => decide +kernel))
  | with_reducible refine x_EqS ?_
  | with_reducible refine x_NeS ?_
  | ((with_reducible refine' x_ixL ?hq ?hi ?_); (case hq => walk_at "hk"); (case hi => first | exact rfl | assumption))
  | ((with_reducible refine' x_ixT ?hq ?hi ?_); (case hq => walk_at "hk"); (case hi => first | exact rfl | assumption))
  | with_reducible refine x_chain ?_
  | with_reducible refine x_tup ?_
  | with_reducible refine x_lst ?_
  | ((with_reducible refine x_lenNew ?hl ?_); (case hl => exact Nat.le_of_ble_eq_true rfl); intro _ _ _ _ _)
  | ((with_reducible refine x_new ?_); intro _ _ _ _ _)
  | with_reducible refine x_sl ?_
  | with_reducible refine x_noPart ?_
  | with_reducible refine x_part ?_
  | with_reducible refine x_ex_int ?_
  | with_reducible refine x_ex_bl ?_
  | with_reducible refine x_ex_2 ?_
  | with_reducible refine x_test ?_
  | with_reducible refine x_B ?_
  | with_reducible refine x_and ?_
  | with_reducible refine x_or ?_
  | with_reducible refine x_not ?_
  | with_reducible refine x_andV ?_
  | with_reducible refine x_orV ?_
  | with_reducible refine x_notV ?_
  | with_reducible refine x_ifE ?_
  | with_reducible refine x_iteT ?_
  | with_reducible refine x_iteF ?_
  | ((with_reducible refine x_iteD ?_ ?_) <;> intro _)
  | ((with_reducible refine x_iteN ?_ ?_) <;> intro _)
  | with_reducible refine x_if ?_
  | with_reducible refine x_seq ?_
  | with_reducible refine x_next ?_
  | with_reducible refine x_asg ?_
  | with_reducible refine x_gName ?_
  | ((with_reducible refine' x_gTup ?hq ?hn ?_); (case hq => walk_at "hk"); (case hn => exact rfl))
  | with_reducible refine x_gCons ?_
  | with_reducible refine x_gNil ?_
  | ((with_reducible refine' x_gConsE ?h ?_); (case h => exact rfl))
  | ((with_reducible refine x_gNilE ?h ?_); (case h => exact rfl))
  | with_reducible refine x_ret ?_
  | with_reducible refine x_drop ?_
  | with_reducible refine x_par ?_
  | ((with_reducible refine' x_aug ?hx ?_); (case hx => exact rfl))
  | with_reducible refine x_ipI ?_
  | with_reducible refine x_augS ?_
  | with_reducible refine x_gSub ?_
  | ((with_reducible refine' x_setL ?hq ?hi ?_); (case hq => walk_at "hk"); (case hi => first | exact rfl | assumption))
  | with_reducible refine x_cons ?_
  | with_reducible refine x_nil ?_
  | with_reducible refine x_CB ?_
  | with_reducible refine x_abs ?_
  | with_reducible refine x_intI ?_
  | with_reducible refine x_intB ?_
  | ((with_reducible refine' x_lenL ?hq ?_); (case hq => walk_at "hk"))
  | ((with_reducible refine' x_lenT ?hq ?_); (case hq => walk_at "hk"))
  | ((with_reducible refine x_iteTe ?h ?_); (case h => exact rfl))
  | ((with_reducible refine x_iteFe ?h ?_); (case h => exact rfl))
  | walk_at "use"
  | with_reducible refine x_callS ?_
  | ((with_reducible refine x_lc ?_))
  | ((with_reducible refine x_for ?_))
  | ((with_reducible refine x_iR1 ?_))
  | ((with_reducible refine x_iL ?_))
  | ((with_reducible refine x_iZ ?_))
  | ((with_reducible refine x_yes ?_))
  | ((with_reducible refine' x_NIDt ?hq ?_); (case hq => assumption))
  | ((with_reducible refine' x_NIDf ?hq ?_); (case hq => assumption))
  | ((with_reducible refine' x_IIDf ?hq ?_); (case hq => assumption))
  | ((with_reducible refine' x_IIDt ?hq ?_); (case hq => assumption))
  | ((with_reducible refine' x_ixDs ?hd ?hq ?_); (case hd => assumption); (case hq => assumption))
  | ((with_reducible refine x_InSt ?h ?_); (case h => decide +kernel))
  | ((with_reducible refine x_InSf ?h ?_); (case h => decide +kernel))
  | ((with_reducible refine' x_notInI ?hq ?_); (case hq => walk_at "hk"))
  | ((with_reducible refine' x_inTt ?hq ?hv ?ha ?he ?_); (case hq => walk_at "hk"); (case hv => exact rfl); (case ha => exact rfl); (case he => decide +kernel))
  | ((with_reducible refine' x_inTf ?hq ?hv ?ha ?he ?_); (case hq => walk_at "hk"); (case hv => exact rfl); (case ha => exact rfl); (case he => decide +kernel))
  | ((with_reducible refine' x_slT ?hq ?hw ?_); (case hq => walk_at "hk"); (case hw => with_unfolding_all exact of_decide_eq_true rfl))
  | ((with_reducible refine' x_slL ?hq ?_); (case hq => walk_at "hk"))
  | ((with_reducible refine' x_catT ?hq ?hr ?n1 ?n2 ?hl ?_); (case hq => walk_at "hk"); (case hr => walk_at "hk"); (case n1 => exact List.cons_ne_nil _ _); (case n2 => exact List.cons_ne_nil _ _); (case hl => exact Nat.le_of_ble_eq_true rfl))
  | ((with_reducible refine x_bm ?_))
  | ((with_reducible refine x_lstRg ?_))
  | ((with_reducible refine x_rg1 ?_))
  | ((with_reducible refine And.intro ?h ?_); (case h => exact tyL (by assumption)))
  | dsimp only)
local macro_rules | `(tactic| walk_at "use") => `(tactic| fail)
local macro_rules | `(tactic| walk_at "rd") => `(tactic| repeat' (walk_at "rd1"))
local macro_rules | `(tactic| walk_at "ex") => `(tactic| first | exact Ex.refl _ | assumption | (refine' Ex.trans ?he (by assumption); (case he => walk_at "ex")))
local macro_rules | `(tactic| walk_at "rd1") => `(tactic| first
  | ((with_reducible refine x_iteDf ?h ?_); (case h => exact rfl))
  | ((with_reducible refine x_iteDt ?h ?_); (case h => exact rfl))
  | ((with_reducible refine x_iteNf ?h ?_); (case h => exact rfl))
  | ((with_reducible refine x_iteNt ?h ?_); (case h => exact rfl))
  | ((with_reducible refine x_isiI (r := true) ?h ?_); (case h => decide +kernel))
  | ((with_reducible refine x_isiI (r := false) ?h ?_); (case h => decide +kernel))
  | ((with_reducible refine x_isiS (r := true) ?h ?_); (case h => decide +kernel))
  | ((with_reducible refine x_isiS (r := false) ?h ?_); (case h => decide +kernel))
  | ((with_reducible refine x_isiB (r := true) ?h ?_); (case h => decide +kernel))
  | ((with_reducible refine x_isiB (r := false) ?h ?_); (case h => decide +kernel))
  | ((with_reducible refine' x_isiT (r := true) ?hp ?h ?_); (case hp => walk_at "hk"); (case h => decide +kernel))
  | ((with_reducible refine' x_isiT (r := false) ?hp ?h ?_); (case hp => walk_at "hk"); (case h => decide +kernel))
  | ((with_reducible refine' x_isiL (r := true) ?hp ?h ?_); (case hp => walk_at "hk"); (case h => decide +kernel))
  | ((with_reducible refine' x_isiL (r := false) ?hp ?h ?_); (case hp => walk_at "hk"); (case h => decide +kernel))
  | ((with_reducible refine' x_isi2L ?hp ?hl ?_); (case hp => walk_at "hk"); (case hl => walk_at "hk"))
  | ((with_reducible refine' x_isi2T ?hp ?hl ?_); (case hp => walk_at "hk"); (case hl => walk_at "hk"))
  | ((with_reducible refine' x_tupOfL ?hq ?_); (case hq => walk_at "hk"))
  | ((with_reducible refine' x_tupOfT ?hq ?_); (case hq => walk_at "hk"))
  | ((with_reducible refine x_lenS ?h ?_); (case h => exact Nat.le_of_ble_eq_true rfl))
  | ((with_reducible refine' x_all ?hq ?_); (case hq => walk_at "hk"))
  | with_reducible refine x_lenSet ?_)
local macro_rules | `(tactic| walk_at "rd1") => `(tactic| first
  | with_reducible refine Er.x_iR2 ?_
  | with_reducible refine Er.x_iEn ?_
  | with_reducible refine Er.x_cont ?_
  | ((with_reducible refine Er.x_isBt ?h ?_); (case h => exact rfl))
  | ((with_reducible refine Er.x_isBf ?h ?_); (case h => exact rfl))
  | ((with_reducible refine Er.x_isNBt ?h ?_); (case h => exact rfl))
  | ((with_reducible refine Er.x_isNBf ?h ?_); (case h => exact rfl))
  | with_reducible refine Er.x_isB ?_
  | with_reducible refine Er.x_isNB ?_)

local macro_rules | `(tactic| walk_at "rd1") => `(tactic| with_reducible refine x_iT ?_)
local macro_rules | `(tactic| walk_at "nb") => `(tactic| first | assumption | (refine Ow.Refs.nb ?_; assumption))
local macro_rules | `(tactic| walk_at "use") => `(tactic| with_reducible refine u_is_index ?_)
local macro_rules | `(tactic| walk_at "sc") => `(tactic| first | assumption | (refine' Scr.mono ?hscr ?escr; (case hscr => assumption); (case escr => walk_at "ex")))
local macro_rules | `(tactic| walk_at "rd1") => `(tactic| first
  | with_reducible refine x_iT ?_
  | with_reducible refine Ow.x_bm0 ?_
  | with_reducible refine x_make ?_
  | with_reducible refine Ow.x_meth ?_
  | with_reducible refine Ow.x_prop ?_
  | with_reducible refine Ow.x_iOwn ?_
  | ((with_reducible refine' x_methS ?h ?l ?_); (case h => walk_at "sc"); (case l => intro _ _; exact rfl))
  | ((with_reducible refine' x_propS ?h ?_); (case h => walk_at "sc"))
  | ((with_reducible refine' u_sfiles ?h ?_); (case h => walk_at "sc"))
  | ((with_reducible refine' u_ssize ?h ?hl ?_); (case h => walk_at "sc"); (case hl => omega); intro _ _)
  | ((with_reducible refine' u_scalls ?h ?_); (case h => walk_at "sc"); intro _ _ _ _ _ _ _)
  | ((with_reducible refine' u_sstraight ?h ?hl ?_); (case h => walk_at "sc"); (case hl => omega); intro _ _)
  | ((with_reducible refine' x_lenS' ?e ?h ?hl ?_); (case e => exact rfl); (case h => walk_at "sc"); (case hl => omega))
  | ((with_reducible refine' x_listS ?e ?h ?_); (case e => exact rfl); (case h => walk_at "sc"); intro _ _ _ _ _ _ _)
  | ((with_reducible refine' x_eqS ?c ?h ?h' ?_); (case c => assumption); (case h => walk_at "sc"); (case h' => walk_at "sc"))
  | ((with_reducible refine' x_neS ?c ?h ?h' ?_); (case c => assumption); (case h => walk_at "sc"); (case h' => walk_at "sc"))
  | ((with_reducible refine' x_eqSL ?c ?h ?h' ?_); (case c => assumption); (case h => walk_at "sc"); (case h' => walk_at "hk"))
  | ((with_reducible refine' x_eqST ?c ?h ?h' ?_); (case c => assumption); (case h => walk_at "sc"); (case h' => walk_at "hk"))
  | ((with_reducible refine' x_eqSI ?c ?h ?_); (case c => assumption); (case h => walk_at "sc")))
section
variable {P : Program} {w : World} {K : PySem.W.Frag} {mg : Str → Option Value} {base : Heap} {a : Ad} {H H1 : Hp} {Q : VK} {E : XK} {p b c t s dx pl : Addr} {fs rs r f : Int} {xs ps : List V} {q : C} {qs us : List C} {CS : Addr}
open Er
/-! is_place of a place -/
def sp_is_placeP : Sp := fun vs H Q _ => ∃ (fs rs r f : Int) (pl : Addr), vs = [.int fs, .int rs, .ref pl] ∧ H pl = some (.tup [.int r, .int f]) ∧ onLine fs rs (r, f) ∧ Q (.bl true) H
theorem u_is_placeP (h : H pl = some (.tup [.int r, .int f])) (ho : onLine fs rs (r, f)) (k : Q (.bl true) H) : sp_is_placeP [.int fs, .int rs, .ref pl] H Q E := ⟨fs, rs, r, f, pl, rfl, h, ho, k⟩
theorem ok_is_placeP (T : Txt K w mg a) : FnOk P w K mg base CX0 3 a.a_is_place a.fd_is_place ["files", "rows", "thing"] sp_is_placeP := by
  refine T.F_is_place.ok sc_is_place (fun vs H Q E h => ?_) (fun cdv A outer s H vs Q E hr h => ?_)
  · obtain ⟨fs, rs, r, f, pl, rfl, _⟩ := h; rfl
  · obtain ⟨fs, rs, r, f, pl, rfl, hp, ⟨h1, h2⟩, k⟩ := h
    have G_is_index := ok_is_index (P := P) (base := base) T
    have h1' : 0 ≤ r ∧ r < rs := h1
    have h2' : 0 ≤ f ∧ f < fs := h2
    refine ⟨_, (pss_cons (ps_if (PW.pt (pw_or (pt_not (pt_val (pe_callB call_isi (by rfl) T.n_isinstance (by decide +kernel) (pa_cons (pv 2) (pa_cons (pe_bltn (v := .ty "tuple") (u := .type "tuple") (by rfl) T.n_tuple (by decide +kernel) rfl) pa_nil))))) (pw_or1 (pt_cmpR op_ne (pe_callB c_len (by rfl) T.n_len PySem.boot_len (pa_cons (pv 2) pa_nil)) pe_int (nomark _))))) (pss_one (ps_ret pe_bl)) pss_nil)
      (pss_one (ps_ret (pe_and (pe_call G_is_index (hr.mono (by decide)) (by rfl) T.m_is_index T.k_is_index T.b_is_index .nil pass0 (pa_cons (pe_ix ix_tup (pv 2) pe_int (fun _ _ => rfl)) (pa_cons (pv 1) pa_nil))) (pe_one (pe_call G_is_index (hr.mono (by decide)) (by rfl) T.m_is_index T.k_is_index T.b_is_index .nil pass0 (pa_cons (pe_ix ix_tup (pv 2) pe_int (fun _ _ => rfl)) (pa_cons (pv 0) pa_nil)))))))), ?_⟩
    walk_at "rd"
    · rw [decide_eq_true h2']
      exact k
    · rename_i hn; exact absurd h1' hn
/-! passed, moved -/
/-- places that stand -/
inductive Plcs (H : Hp) : List V → List (Int × Int) → Prop
  | nil : Plcs H [] []
  | cons {p : Addr} {x : Int × Int} {vs : List V} {ls : List (Int × Int)} (h : H p = some (.tup (pairV x))) (t : Plcs H vs ls) : Plcs H (.ref p :: vs) (x :: ls)
theorem Plcs.mono {ls : List (Int × Int)} (t : Tx H H1) (h : Plcs H ps ls) : Plcs H1 ps ls := by
  induction h with
  | nil => exact .nil
  | cons h _ ih => exact .cons (t _ _ h) ih
theorem Plcs.len {ls : List (Int × Int)} (h : Plcs H ps ls) : ps.length = ls.length := by
  induction h with
  | nil => rfl
  | cons _ _ ih => rw [List.length_cons, List.length_cons, ih]
theorem Plcs.refs {ls : List (Int × Int)} (h : Plcs H ps ls) : Ow.Refs ps := by
  induction h with
  | nil => exact Ow.Refs.nil
  | cons _ _ ih => exact Ow.Refs.cons ih
theorem Plcs.app {ls ks : List (Int × Int)} {vs : List V} (h : Plcs H ps ls) (h2 : Plcs H vs ks) : Plcs H (ps ++ vs) (ls ++ ks) := by
  induction h with
  | nil => exact h2
  | cons h _ ih => exact .cons h ih
theorem Plcs.get {ls : List (Int × Int)} (h : Plcs H ps ls) : ∀ {i : Nat} {x : Int × Int}, ls[i]? = some x → ∃ p, ps[i]? = some (.ref p) ∧ H p = some (.tup (pairV x)) := by
  induction h with
  | nil => intro i l e; simp at e
  | cons h _ ih =>
    intro i l e
    cases i with
    | zero => exact ⟨_, rfl, by rw [h, show _ = l from Option.some.inj e]⟩
    | succ i => exact ih (by simpa using e)
/-- through which places calls lead -/
def trail (qs : List C) (fs rs : Int) (x : Int × Int) : List (Int × Int) := (List.range (qs.length + 1)).map fun i => led (qs.take i) fs rs x
theorem trail_snoc {x : Int × Int} : trail (qs ++ [q]) fs rs x = trail qs fs rs x ++ [led (qs ++ [q]) fs rs x] := by
  unfold trail
  rw [List.length_append, show [q].length = 1 from rfl, List.range_succ, List.map_append]
  congr 1
  · refine List.map_congr_left fun i hi => ?_
    have := List.mem_range.mp hi
    rw [List.take_append_of_le_length (by omega)]
  · rw [List.map_cons, List.map_nil, List.take_of_length_le (by simp)]
theorem trail_len {x : Int × Int} : (trail qs fs rs x).length = qs.length + 1 := by simp [trail]
theorem trail_last {x : Int × Int} : (trail qs fs rs x)[qs.length]? = some (led qs fs rs x) := by
  unfold trail
  rw [List.getElem?_map, List.getElem?_range (by omega)]
  show some (led (qs.take qs.length) fs rs x) = _
  rw [List.take_of_length_le (Nat.le_refl _)]
def sp_passed (CS : Addr) : Sp := fun vs H Q _ => ∃ (s pl : Addr) (fs rs r f : Int) (qs : List C), vs = [.ref s, .int rs, .ref pl] ∧ Scr CS H s fs qs ∧ (∀ q ∈ qs, q.ok fs) ∧ qs.length ≤ 1000 ∧ H pl = some (.tup [.int r, .int f]) ∧ (fs = 2 ∨ fs = 3) ∧ rs.natAbs < 2 ^ 200 ∧ onLine fs rs (r, f) ∧ ∀ t ps H1, Ex H H1 → H t = none → H1 t = some (.lst ps) → Plcs H1 ps (trail qs fs rs (r, f)) → Q (.ref t) H1
theorem u_passed (hs : Scr CS H s fs qs) (ho : ∀ q ∈ qs, q.ok fs) (hl : qs.length ≤ 1000) (hp : H pl = some (.tup [.int r, .int f])) (hf : fs = 2 ∨ fs = 3) (hb : rs.natAbs < 2 ^ 200) (on : onLine fs rs (r, f)) (k : ∀ t ps H1, Ex H H1 → H t = none → H1 t = some (.lst ps) → Plcs H1 ps (trail qs fs rs (r, f)) → Q (.ref t) H1) : sp_passed CS [.ref s, .int rs, .ref pl] H Q E := ⟨s, pl, fs, rs, r, f, qs, rfl, hs, ho, hl, hp, hf, hb, on, k⟩
theorem ok_passed (T : Txt K w mg a) : FnOk P w K mg base CX0 4 a.a_passed a.fd_passed ["script", "rows", "place"] (sp_passed a.c_Script) := by
  refine T.F_passed.ok sc_passed (fun vs H Q E h => ?_) (fun cdv A outer s H vs Q E hr h => ?_)
  · obtain ⟨s, pl, fs, rs, r, f, qs, rfl, _⟩ := h; rfl
  · obtain ⟨s, pl, fs, rs, r, f, qs, rfl, hs, ho, hl, hp, hf, hb, on, k⟩ := h
    have G_is_place := ok_is_placeP (P := P) (base := base) T
    have G_moved_by := ok_moved_by (P := P) (base := base) T
    have G_Script_files := ok_Script_files (P := P) (base := base) T
    have D_Script := it_Script (P := P) (w := w) (mg := mg) (base := base) T
    refine ⟨_, (pss_cons (ps_if (pt_not (pt_val (pe_call G_is_place (hr.mono (by decide)) (by rfl) T.m_is_place T.k_is_place T.b_is_place .nil pass0 (pa_cons (pe_prop (pv 0) T.t_Script.cl T.P_Script_files G_Script_files (hr.mono (by decide)) T.b_Script_files .nil pass0 rfl) (pa_cons (pv 1) (pa_cons (pv 2) pa_nil)))))) (pss_one ps_never) pss_nil)
      (pss_cons (ps_set (i := 3) sc_passed.nd rfl (Or.inl rfl) (pe_lst (pa_cons (pv 2) pa_nil)))
      (pss_cons (ps_for PassesOwn.never rfl (Ow.pi_own (pv 0) T.F_Script_iter sc_Script_iter T.b_Script_iter D_Script (hr.mono (by decide)) pass0 T.Q_Script_iter.at_ T.Q_Script_iter.fn) (pg_name (i := 4) sc_passed.nd rfl (Or.inl rfl)) (pss_one (ps_expr (pe_bm PySem.F.plainAttrs_list PySem.F.slot_list_append PySem.F.type_list_append mt_append (pv 3) (pa_cons (pe_call G_moved_by (hr.mono (by decide)) (by rfl) T.m_moved_by T.k_moved_by T.b_moved_by .nil pass0 (pa_cons (pv 4) (pa_cons (pe_prop (pv 0) T.t_Script.cl T.P_Script_files G_Script_files (hr.mono (by decide)) T.b_Script_files .nil pass0 rfl) (pa_cons (pv 1) (pa_cons (pe_ix ix_list (pv 3) (pe_un un_neg pe_int) (fun _ _ => rfl)) pa_nil))))) pa_nil)))))
      (pss_one (ps_ret (pv 3)))))), ?_⟩
    walk_at "rd"
    refine u_is_placeP hp on ?_
    walk_at "rd"
    rename_i t H1 e1 f1 h1
    refine' x_iOwnS ?h ?_; (case h => walk_at "sc")
    intro it ys hit hys
    refine for_tup (K := K) (a := it) (xs := ys) (fun i σ H' => ∃ (ps : List V) (v4 : Option V), σ = [some (.ref s), some (.int rs), some (.ref pl), some (.ref t), v4] ∧ Tx H1 H' ∧ Ex H H' ∧ H' t = some (.lst ps) ∧ Plcs H' ps (trail (qs.take i) fs rs (r, f)) ∧ i ≤ qs.length) ⟨_, _, rfl, fun _ _ h => h, e1, h1, .cons (e1.kp _ _ hp NB.tup) .nil, Nat.zero_le _⟩ (fun i σ H' _ h => ?_) (fun i x σ H' hx h => ?_) (fun σ H' h => ?_)
    · obtain ⟨_, _, _, e, _⟩ := h
      exact SqT.of (e _ _ hit)
    · obtain ⟨ps, v4, rfl, e, e', ht, hpl, hi⟩ := h
      obtain ⟨p, q, rfl, hq, hp'⟩ := (hys.mono e).get hx
      have hi' := (List.getElem?_eq_some_iff.mp hq).1
      have on' := led_range (qs := qs.take i) (fun z hz => ho z (List.mem_of_mem_take hz)) on
      have hpl' := hpl.len
      rw [trail_len, List.length_take, Nat.min_eq_left (by omega)] at hpl'
      have tl := trail_last (qs := qs.take i) (fs := fs) (rs := rs) (x := (r, f))
      rw [List.length_take, Nat.min_eq_left (by omega)] at tl
      obtain ⟨pz, ez, hz⟩ := hpl.get tl
      have nbp : NB (.lst ps) := hpl.refs.nb
      have sc := hs.mono e'
      have az : atI ps (-1) = some (.ref pz) := by
        unfold atI ixN
        rw [if_neg (by decide), if_pos (by omega)]
        show ps[(-1 + (ps.length : Int)).toNat]? = _
        rw [show (-1 + (ps.length : Int)).toNat = i by omega]
        exact ez
      walk_at "rd"
      refine u_moved_by (r := (led (qs.take i) fs rs (r, f)).1) (f := (led (qs.take i) fs rs (r, f)).2) (by walk_at "hk") (by walk_at "hk") hf (by have := on'.1; omega) hb on'.2 on'.1 fun p1 H3 e3 h3 => ?_
      have ht3 := e3.kp _ _ ht nbp
      walk_at "rd"
      refine Er.x_append ht3 (Nat.lt_of_le_of_lt (show _ ≤ 1001 by omega) (by decide)) ?_
      walk_at "rd"
      have eF : Ex H (upd H3 t (.lst (ps ++ [.ref p1]))) := Ex.mut (e'.trans e3) f1
      have tx : Tx H3 (upd H3 t (.lst (ps ++ [.ref p1]))) := Tx.set ht3
      refine ⟨_, _, rfl, fun a xs h => tx _ _ (e3.tx _ _ (e _ _ h)), eF, upd_same, ?_, hi'⟩
      rw [List.take_add_one, hq, show (some q).toList = [q] from rfl, trail_snoc, led_snoc]
      exact (hpl.mono fun a xs h => tx _ _ (e3.tx _ _ h)).app (.cons (tx _ _ h3) .nil)
    · obtain ⟨ps, v4, rfl, e, e', ht, hpl, hi⟩ := h
      walk_at "rd"
      rw [hys.len, List.take_of_length_le (Nat.le_refl _)] at hpl
      exact k t ps H' e' f1 ht hpl
def sp_moved (CS : Addr) : Sp := fun vs H Q _ => ∃ (s pl : Addr) (fs rs r f : Int) (qs : List C), vs = [.ref s, .int rs, .ref pl] ∧ Scr CS H s fs qs ∧ (∀ q ∈ qs, q.ok fs) ∧ qs.length ≤ 1000 ∧ H pl = some (.tup [.int r, .int f]) ∧ (fs = 2 ∨ fs = 3) ∧ rs.natAbs < 2 ^ 200 ∧ onLine fs rs (r, f) ∧ ∀ t H1, Ex H H1 → H1 t = some (.tup (pairV (led qs fs rs (r, f)))) → Q (.ref t) H1
theorem u_moved (hs : Scr CS H s fs qs) (ho : ∀ q ∈ qs, q.ok fs) (hl : qs.length ≤ 1000) (hp : H pl = some (.tup [.int r, .int f])) (hf : fs = 2 ∨ fs = 3) (hb : rs.natAbs < 2 ^ 200) (on : onLine fs rs (r, f)) (k : ∀ t H1, Ex H H1 → H1 t = some (.tup (pairV (led qs fs rs (r, f)))) → Q (.ref t) H1) : sp_moved CS [.ref s, .int rs, .ref pl] H Q E := ⟨s, pl, fs, rs, r, f, qs, rfl, hs, ho, hl, hp, hf, hb, on, k⟩
theorem ok_moved (T : Txt K w mg a) : FnOk P w K mg base CX0 5 a.a_moved a.fd_moved ["script", "rows", "place"] (sp_moved a.c_Script) := by
  refine T.F_moved.ok sc_moved (fun vs H Q E h => ?_) (fun cdv A outer s H vs Q E hr h => ?_)
  · obtain ⟨s, pl, fs, rs, r, f, qs, rfl, _⟩ := h; rfl
  · obtain ⟨s, pl, fs, rs, r, f, qs, rfl, hs, ho, hl, hp, hf, hb, on, k⟩ := h
    have G_passed := ok_passed (P := P) (base := base) T
    refine ⟨_, (pss_one (ps_ret (pe_ix ix_list (pe_call G_passed (hr.mono (by decide)) (by rfl) T.m_passed T.k_passed T.b_passed .nil pass0 (pa_cons (pv 0) (pa_cons (pv 1) (pa_cons (pv 2) pa_nil)))) (pe_un un_neg pe_int) (fun _ _ => rfl)))), ?_⟩
    walk_at "rd"
    refine u_passed hs ho hl hp hf hb on fun t ps H1 e1 f1 h1 hpl => ?_
    obtain ⟨pz, ez, hz⟩ := hpl.get (trail_last (qs := qs) (fs := fs) (rs := rs) (x := (r, f)))
    have hpl' := hpl.len
    rw [trail_len] at hpl'
    have az : atI ps (-1) = some (.ref pz) := by
      unfold atI ixN
      rw [if_neg (by decide), if_pos (by omega)]
      show ps[(-1 + (ps.length : Int)).toNat]? = _
      rw [show (-1 + (ps.length : Int)).toNat = qs.length by omega]
      exact ez
    walk_at "rd"
    exact k pz H1 e1 hz
end
end My

set_option Elab.async false
set_option linter.all false
set_option maxRecDepth 100000
set_option maxHeartbeats 8000000
namespace My
open PySem PySem.Spec PyProof.Rows L2 Sx
local macro_rules | `(tactic| walk_at "nb") => `(tactic| first | exact NB.tup | exact NB.ints | exact NB.len (of_decide_eq_true rfl) | exact NB.at0b rfl | exact NB.at3b rfl | exact NB.ins | exact NB.own | exact NB.frz | exact NB.refs (by assumption) | assumption)
local macro_rules | `(tactic| walk_at "ne") => `(tactic| first | assumption | exact Ne.symm (by assumption) | exact ne_of_none (by assumption) (by assumption) | exact Ne.symm (ne_of_none (by assumption) (by assumption)))
local macro_rules | `(tactic| walk_at "hk") => `(tactic| first
  | assumption
  | exact upd_same
  | (refine' (upd_ne ?hkne).trans ?hkq; (case hkne => walk_at "ne"); (case hkq => walk_at "hk"))
  | (refine' Ex.kp (by assumption) _ _ ?hkq ?hkn; (case hkq => walk_at "hk"); (case hkn => walk_at "nb")))
local macro_rules | `(tactic| walk_at "rd1") => `(tactic| first
  | ((with_reducible refine' x_var ?hx ?_); (case hx => exact rfl))
  | with_reducible refine x_c ?_
  | with_reducible refine x_op ?_
  | with_reducible refine x_un ?_
  | with_reducible refine x_I0 ?_
  | with_reducible refine x_U ?_
  | ((with_reducible refine x_I ?hc ?_); (case hc => first | exact (by decide : (0 : Int) < _) | (show (0 : Int) < _; omega) | (show CMul _ _; first | exact .inl ⟨by omega, by omega⟩ | exact .inr ⟨by omega, by omega⟩) | (show CDiv _ _; exact ⟨by omega, by omega⟩) | (show CDivW _ _; exact wide_div (b := 200) (by omega) (by assumption) (by decide) (by decide)) | (show CDivW _ _; exact wide_div (b := 31) (by omega) (by omega) (by decide) (by decide))))
  | with_reducible refine x_EqI ?_
  | with_reducible refine x_NeI ?_
  | ((with_reducible refine x_EqSt ?h ?_); (case h => decide +kernel))
  | ((with_reducible refine x_EqSf ?h ?_); (case h => decide +kernel))
  | ((with_reducible refine x_NeSt ?h ?_); (case h => decide +kernel))
  | ((with_reducible refine x_NeSf ?h ?_); (case h => decide +kernel))
  | with_reducible refine x_EqS ?_
  | with_reducible refine x_NeS ?_
  | ((with_reducible refine' x_ixL ?hq ?hi ?_); (case hq => walk_at "hk"); (case hi => first | exact rfl | assumption))
  | ((with_reducible refine' x_ixT ?hq ?hi ?_); (case hq => walk_at "hk"); (case hi => first | exact rfl | assumption))
  | with_reducible refine x_chain ?_
  | with_reducible refine x_tup ?_
  | with_reducible refine x_lst ?_
  | ((with_reducible refine x_lenNew ?hl ?_); (case hl => exact Nat.le_of_ble_eq_true rfl); intro _ _ _ _ _)
  | ((with_reducible refine x_new ?_); intro _ _ _ _ _)
  | with_reducible refine x_sl ?_
  | with_reducible refine x_noPart ?_
  | with_reducible refine x_part ?_
  | with_reducible refine x_ex_int ?_
  | with_reducible refine x_ex_bl ?_
  | with_reducible refine x_ex_2 ?_
  | with_reducible refine x_test ?_
  | with_reducible refine x_B ?_
  | with_reducible refine x_and ?_
  | with_reducible refine x_or ?_
  | with_reducible refine x_not ?_
  | with_reducible refine x_andV ?_
  | with_reducible refine x_orV ?_
  | with_reducible refine x_notV ?_
  | with_reducible refine x_ifE ?_
  | with_reducible refine x_iteT ?_
  | with_reducible refine x_iteF ?_
  | ((with_reducible refine x_iteD ?_ ?_) <;> intro _)
  | ((with_reducible refine x_iteN ?_ ?_) <;> intro _)
  | with_reducible refine x_if ?_
  | with_reducible refine x_seq ?_
  | with_reducible refine x_next ?_
  | with_reducible refine x_asg ?_
  | with_reducible refine x_gName ?_
  | ((with_reducible refine' x_gTup ?hq ?hn ?_); (case hq => walk_at "hk"); (case hn => exact rfl))
  | with_reducible refine x_gCons ?_
  | with_reducible refine x_gNil ?_
  | ((with_reducible refine' x_gConsE ?h ?_); (case h => exact rfl))
  | ((with_reducible refine x_gNilE ?h ?_); (case h => exact rfl))
  | with_reducible refine x_ret ?_
  | with_reducible refine x_drop ?_
  | with_reducible refine x_par ?_
  | ((with_reducible refine' x_aug ?hx ?_); (case hx => exact rfl))
  | with_reducible refine x_ipI ?_
  | with_reducible refine x_augS ?_
  | with_reducible refine x_gSub ?_
  | ((with_reducible refine' x_setL ?hq ?hi ?_); (case hq => walk_at "hk"); (case hi => first | exact rfl | assumption))
  | with_reducible refine x_cons ?_
  | with_reducible refine x_nil ?_
  | with_reducible refine x_CB ?_
  | with_reducible refine x_abs ?_
  | with_reducible refine x_intI ?_
  | with_reducible refine x_intB ?_
  | ((with_reducible refine' x_lenL ?hq ?_); (case hq => walk_at "hk"))
  | ((with_reducible refine' x_lenT ?hq ?_); (case hq => walk_at "hk"))
  | ((with_reducible refine x_iteTe ?h ?_); (case h => exact rfl))
  | ((with_reducible refine x_iteFe ?h ?_); (case h => exact rfl))
  | walk_at "use"
  | with_reducible refine x_callS ?_
  | ((with_reducible refine x_lc ?_))
  | ((with_reducible refine x_for ?_))
  | ((with_reducible refine x_iR1 ?_))
  | ((with_reducible refine x_iL ?_))
  | ((with_reducible refine x_iZ ?_))
  | ((with_reducible refine x_yes ?_))
  | ((with_reducible refine' x_NIDt ?hq ?_); (case hq => assumption))
  | ((with_reducible refine' x_NIDf ?hq ?_); (case hq => assumption))
  | ((with_reducible refine' x_IIDf ?hq ?_); (case hq => assumption))
  | ((with_reducible refine' x_IIDt ?hq ?_); (case hq => assumption))
  | ((with_reducible refine' x_ixDs ?hd ?hq ?_); (case hd => assumption); (case hq => assumption))
  | ((with_reducible refine x_InSt ?h ?_); (case h => decide +kernel))
  | ((with_reducible refine x_InSf ?h ?_); (case h => decide +kernel))
  | ((with_reducible refine' x_notInI ?hq ?_); (case hq => walk_at "hk"))
  | ((with_reducible refine' x_inTt ?hq ?hv ?ha ?he ?_); (case hq => walk_at "hk"); (case hv => exact rfl); (case ha => exact rfl); (case he => decide +kernel))
  | ((with_reducible refine' x_inTf ?hq ?hv ?ha ?he ?_); (case hq => walk_at "hk"); (case hv => exact rfl); (case ha => exact rfl); (case he => decide +kernel))
  | ((with_reducible refine' x_slT ?hq ?hw ?_); (case hq => walk_at "hk"); (case hw => with_unfolding_all exact of_decide_eq_true rfl))
  | ((with_reducible refine' x_slL ?hq ?_); (case hq => walk_at "hk"))
  | ((with_reducible refine' x_catT ?hq ?hr ?n1 ?n2 ?hl ?_); (case hq => walk_at "hk"); (case hr => walk_at "hk"); (case n1 => exact List.cons_ne_nil _ _); (case n2 => exact List.cons_ne_nil _ _); (case hl => exact Nat.le_of_ble_eq_true rfl))
  | ((with_reducible refine x_bm ?_))
  | ((with_reducible refine x_lstRg ?_))
  | ((with_reducible refine x_rg1 ?_))
  | ((with_reducible refine And.intro ?h ?_); (case h => exact tyL (by assumption)))
  | dsimp only)
local macro_rules | `(tactic| walk_at "use") => `(tactic| fail)
local macro_rules | `(tactic| walk_at "rd") => `(tactic| repeat' (walk_at "rd1"))
local macro_rules | `(tactic| walk_at "ex") => `(tactic| first | exact Ex.refl _ | assumption | (refine' Ex.trans ?he (by assumption); (case he => walk_at "ex")))
local macro_rules | `(tactic| walk_at "rd1") => `(tactic| first
  | ((with_reducible refine x_iteDf ?h ?_); (case h => exact rfl))
  | ((with_reducible refine x_iteDt ?h ?_); (case h => exact rfl))
  | ((with_reducible refine x_iteNf ?h ?_); (case h => exact rfl))
  | ((with_reducible refine x_iteNt ?h ?_); (case h => exact rfl))
  | ((with_reducible refine x_isiI (r := true) ?h ?_); (case h => decide +kernel))
  | ((with_reducible refine x_isiI (r := false) ?h ?_); (case h => decide +kernel))
  | ((with_reducible refine x_isiS (r := true) ?h ?_); (case h => decide +kernel))
  | ((with_reducible refine x_isiS (r := false) ?h ?_); (case h => decide +kernel))
  | ((with_reducible refine x_isiB (r := true) ?h ?_); (case h => decide +kernel))
  | ((with_reducible refine x_isiB (r := false) ?h ?_); (case h => decide +kernel))
  | ((with_reducible refine' x_isiT (r := true) ?hp ?h ?_); (case hp => walk_at "hk"); (case h => decide +kernel))
  | ((with_reducible refine' x_isiT (r := false) ?hp ?h ?_); (case hp => walk_at "hk"); (case h => decide +kernel))
  | ((with_reducible refine' x_isiL (r := true) ?hp ?h ?_); (case hp => walk_at "hk"); (case h => decide +kernel))
  | ((with_reducible refine' x_isiL (r := false) ?hp ?h ?_); (case hp => walk_at "hk"); (case h => decide +kernel))
  | ((with_reducible refine' x_isi2L ?hp ?hl ?_); (case hp => walk_at "hk"); (case hl => walk_at "hk"))
  | ((with_reducible refine' x_isi2T ?hp ?hl ?_); (case hp => walk_at "hk"); (case hl => walk_at "hk"))
  | ((with_reducible refine' x_tupOfL ?hq ?_); (case hq => walk_at "hk"))
  | ((with_reducible refine' x_tupOfT ?hq ?_); (case hq => walk_at "hk"))
  | ((with_reducible refine x_lenS ?h ?_); (case h => exact Nat.le_of_ble_eq_true rfl))
  | ((with_reducible refine' x_all ?hq ?_); (case hq => walk_at "hk"))
  | with_reducible refine x_lenSet ?_)
local macro_rules | `(tactic| walk_at "nb") => `(tactic| first | exact NB.xd | exact NB.dK)
local macro_rules | `(tactic| walk_at "rd1") => `(tactic| first
  | with_reducible refine Er.x_par3 ?_
  | with_reducible refine Er.x_ex_3 ?_
  | with_reducible refine Er.x_revL0 ?_
  | ((with_reducible refine' Er.x_revL ?hq ?_); (case hq => walk_at "hk"))
  | with_reducible refine Er.x_dget2 ?_
  | with_reducible refine x_dict0 ?_
  | ((with_reducible refine x_pow ?hc ?_); (case hc => exact ⟨by decide, by decide, by decide⟩))
  | ((with_reducible refine And.intro ?h ?_); (case h => exact tyL (by walk_at "hk")))
  | ((with_reducible refine' Er.x_dis ?hq ?_); (case hq => walk_at "hk"))
  | ((with_reducible refine' Er.x_dgo ?hq ?he ?_); (case hq => walk_at "hk"); (case he => exact rfl)))
local macro_rules | `(tactic| walk_at "rd1") => `(tactic| first
  | with_reducible refine Er.x_iR2 ?_
  | with_reducible refine Er.x_iEn ?_
  | with_reducible refine Er.x_cont ?_
  | ((with_reducible refine Er.x_isBt ?h ?_); (case h => exact rfl))
  | ((with_reducible refine Er.x_isBf ?h ?_); (case h => exact rfl))
  | ((with_reducible refine Er.x_isNBt ?h ?_); (case h => exact rfl))
  | ((with_reducible refine Er.x_isNBf ?h ?_); (case h => exact rfl))
  | with_reducible refine Er.x_isB ?_
  | with_reducible refine Er.x_isNB ?_)

open Cl
local macro_rules | `(tactic| walk_at "nb") => `(tactic| first | exact NB.ints | assumption | (refine Ow.Refs.nb ?_; assumption))
local macro_rules | `(tactic| walk_at "rd1") => `(tactic| first
  | with_reducible refine x_iT ?_
  | with_reducible refine x_fld ?_
  | ((with_reducible refine' x_fldK ?h ?c ?n ?l ?_); (case h => walk_at "hk"); (case c => assumption); (case n => assumption); (case l => first | exact rfl | assumption))
  | ((with_reducible refine' x_listOfL ?h ?_); (case h => walk_at "hk")))
local macro_rules | `(tactic| walk_at "sc") => `(tactic| first | assumption | (refine' Scr.mono ?hscr ?escr; (case hscr => assumption); (case escr => walk_at "ex")))
local macro_rules | `(tactic| walk_at "rd1") => `(tactic| first
  | with_reducible refine x_iT ?_
  | with_reducible refine Ow.x_bm0 ?_
  | with_reducible refine x_make ?_
  | with_reducible refine Ow.x_meth ?_
  | with_reducible refine Ow.x_prop ?_
  | with_reducible refine Ow.x_iOwn ?_
  | ((with_reducible refine' x_methS ?h ?l ?_); (case h => walk_at "sc"); (case l => intro _ _; exact rfl))
  | ((with_reducible refine' x_propS ?h ?_); (case h => walk_at "sc"))
  | ((with_reducible refine' u_sfiles ?h ?_); (case h => walk_at "sc"))
  | ((with_reducible refine' u_ssize ?h ?hl ?_); (case h => walk_at "sc"); (case hl => omega); intro _ _)
  | ((with_reducible refine' u_scalls ?h ?_); (case h => walk_at "sc"); intro _ _ _ _ _ _ _)
  | ((with_reducible refine' u_sstraight ?h ?hl ?_); (case h => walk_at "sc"); (case hl => omega); intro _ _)
  | ((with_reducible refine' x_lenS' ?e ?h ?hl ?_); (case e => exact rfl); (case h => walk_at "sc"); (case hl => omega))
  | ((with_reducible refine' x_listS ?e ?h ?_); (case e => exact rfl); (case h => walk_at "sc"); intro _ _ _ _ _ _ _)
  | ((with_reducible refine' x_eqS ?c ?h ?h' ?_); (case c => assumption); (case h => walk_at "sc"); (case h' => walk_at "sc"))
  | ((with_reducible refine' x_neS ?c ?h ?h' ?_); (case c => assumption); (case h => walk_at "sc"); (case h' => walk_at "sc"))
  | ((with_reducible refine' x_eqSL ?c ?h ?h' ?_); (case c => assumption); (case h => walk_at "sc"); (case h' => walk_at "hk"))
  | ((with_reducible refine' x_eqST ?c ?h ?h' ?_); (case c => assumption); (case h => walk_at "sc"); (case h' => walk_at "hk"))
  | ((with_reducible refine' x_eqSI ?c ?h ?_); (case c => assumption); (case h => walk_at "sc")))
section
variable {P : Program} {w : World} {K : PySem.W.Frag} {mg : Str → Option Value} {base : Heap} {a : Ad} {H H1 : Hp} {Q : VK} {E : XK} {p b c t s dx l : Addr} {fl gl r : Int} {xs ps : List V} {q : C} {qs us : List C} {n m : Nat} {g g' : Int → Int → Int} {ls : List (List Int)} {CS CL : Addr} {fs : List (Str × V)}
open Er
theorem shaped_ints (ns : List Int) : SeqAt.shaped (.list (ns.map .int)) = true := by
  have h : PyData.canLayAll0 (ns.map PyData.int) = true ∧ PyData.depthAll (ns.map PyData.int) = 0 := by
    induction ns with
    | nil => simp [PyData.canLayAll0, PyData.depthAll]
    | cons n ns ih => simp [PyData.canLayAll0, PyData.depthAll, PyData.canLay0, PyData.depth, ih.1, ih.2]
  simp [SeqAt.shaped, PyData.canLay0, PyData.depth, h.1, h.2]
theorem eqv_ints (ns : List Int) : PyData.eqv (.list (ns.map .int)) (.list (ns.map .int)) = true := by
  have h : PyData.canLayAll0 (ns.map PyData.int) = true := by
    induction ns with
    | nil => simp [PyData.canLayAll0]
    | cons n ns ih => simp [PyData.canLayAll0, PyData.canLay0, ih]
  exact SeqAt.eqv_refl _ (by simp [PyData.canLay0, h])
theorem dp_ints {ns : List Int} : DpAll K H (ns.map V.int) (ns.map .int) := by
  induction ns with
  | nil => exact .nil
  | cons n ns ih => exact .cons (.int n) ih
/-! one list of moves and then another -/
def sp_followed : Sp := fun vs H Q _ => ∃ (b c : Addr) (n m : Nat) (qs us : List C), vs = [.ref b, .ref c] ∧ H b = some (.lst ((goalsL n m qs).map V.int)) ∧ H c = some (.lst ((goalsL n m us).map V.int)) ∧ Sz n m ∧ (∀ q ∈ qs, q.ok n) ∧ (∀ q ∈ us, q.ok n) ∧ ∀ t H1, Ex H H1 → H t = none → H1 t = some (.lst ((goalsL n m (qs ++ us)).map V.int)) → Q (.ref t) H1
theorem u_followed (h1 : H b = some (.lst ((goalsL n m qs).map V.int))) (h2 : H c = some (.lst ((goalsL n m us).map V.int))) (hz : Sz n m) (o1 : ∀ q ∈ qs, q.ok n) (o2 : ∀ q ∈ us, q.ok n) (k : ∀ t H1, Ex H H1 → H t = none → H1 t = some (.lst ((goalsL n m (qs ++ us)).map V.int)) → Q (.ref t) H1) : sp_followed [.ref b, .ref c] H Q E := ⟨b, c, n, m, qs, us, rfl, h1, h2, hz, o1, o2, k⟩
theorem ok_followed (T : Txt K w mg a) : FnOk P w K mg base CX0 1 a.a_followed a.fd_followed ["one", "other"] sp_followed := by
  refine T.F_followed.ok sc_followed (fun vs H Q E h => ?_) (fun cdv A outer s H vs Q E hr h => ?_)
  · obtain ⟨b, c, n, m, qs, us, rfl, _⟩ := h; rfl
  · obtain ⟨b, c, n, m, qs, us, rfl, h1, h2, hz, o1, o2, k⟩ := h
    have hnm := hz.lt
    have n0 := hz.n0
    refine ⟨_, (pss_one (ps_ret (pe_lc (own := [("number", 2)]) rfl sc_followed.nd (pi_list (pv 0)) (blkOk_by (own := [("number", 2)]) (N := ["one", "other", "number"]) (sc := defScope s_followed) (by decide +kernel)) (fun _ _ _ _ _ => (pg_name (i := 2) sc_followed.nd rfl (Or.inl rfl) (Or.inr rfl))) (fun _ _ _ _ _ => pts_nil) (fun _ _ _ _ _ => (pe_ix Ow.ix_listB (pv 1) (pv 2) (fun _ _ => rfl)))))), ?_⟩
    walk_at "rd"
    refine lc_lst h1 NB.ints (fun i acc _ => acc = ((goalsL n m (qs ++ us)).take i).map V.int ∧ i ≤ n * m) ⟨rfl, Nat.zero_le _⟩ (fun _ _ _ _ _ h => h) (fun i acc _ h => ?_) (fun x => rfl) (fun i y acc H' hy e hI kk k1 k2 => ?_) (fun p2 ys H2 e2 f2 h2' hI => ?_)
    · obtain ⟨rfl, hi⟩ := h
      exact ⟨NB.ints, Nat.lt_of_le_of_lt (show _ ≤ 300000 by rw [List.length_map, List.length_take, goals_len]; omega) (by decide)⟩
    · obtain ⟨rfl, hi⟩ := hI
      have hi' := (List.getElem?_eq_some_iff.mp hy).1
      rw [List.length_map, goals_len] at hi'
      obtain ⟨j, j1, j2, _⟩ := goal_at (m := m) n0 o1 hi'
      rw [List.getElem?_map, j1] at hy
      have ey : V.int (j : Int) = y := Option.some.inj hy
      subst ey
      have ga := goals_app n0 o1 o2 hi' j1
      obtain ⟨z, hz'⟩ : ∃ z, (goalsL n m (qs ++ us))[i]? = some z := ⟨_, List.getElem?_eq_getElem (by rw [goals_len]; exact hi')⟩
      rw [hz'] at ga
      have at2 : atI ((goalsL n m us).map V.int) (j : Int) = some (.int z) := at_nat (by omega) (by rw [Int.toNat_natCast, List.getElem?_map, ga.2]; rfl)
      have h2x := e.kp _ _ h2 NB.ints
      walk_at "rd"
      refine k1 _ _ (Ex.refl _) ⟨?_, hi'⟩
      rw [List.take_add_one, hz', List.map_append]
      rfl
    · obtain ⟨rfl, _⟩ := hI
      rw [List.length_map, goals_len, List.take_of_length_le (by rw [goals_len]; exact Nat.le_refl _)] at h2'
      exact k p2 H2 e2 f2 h2'
local macro_rules | `(tactic| walk_at "use") => `(tactic| ((with_reducible refine' u_followed ?h1 ?h2 ?hz ?o1 ?o2 ?_); (case h1 => walk_at "hk"); (case h2 => walk_at "hk"); (case hz => assumption); (case o1 => assumption); (case o2 => assumption); intro _ _ _ _ _))
/-! the same moves so many times -/
def sp_repeated : Sp := fun vs H Q _ => ∃ (b : Addr) (k : Nat) (n m : Nat) (qs : List C), vs = [.ref b, .int (k : Int)] ∧ H b = some (.lst ((goalsL n m qs).map V.int)) ∧ Sz n m ∧ (∀ q ∈ qs, q.ok n) ∧ ∀ t H1, Ex H H1 → H1 t = some (.lst ((goalsL n m (rep k qs)).map V.int)) → Q (.ref t) H1
theorem u_repeated {k : Nat} (h1 : H b = some (.lst ((goalsL n m qs).map V.int))) (hz : Sz n m) (o1 : ∀ q ∈ qs, q.ok n) (kk : ∀ t H1, Ex H H1 → H1 t = some (.lst ((goalsL n m (rep k qs)).map V.int)) → Q (.ref t) H1) : sp_repeated [.ref b, .int (k : Int)] H Q E := ⟨b, k, n, m, qs, rfl, h1, hz, o1, kk⟩
theorem ok_repeated (T : Txt K w mg a) : FnOk P w K mg base CX0 2 a.a_repeated a.fd_repeated ["moves", "many"] sp_repeated := by
  refine T.F_repeated.ok sc_repeated (fun vs H Q E h => ?_) (fun cdv A outer s H vs Q E hr h => ?_)
  · obtain ⟨b, k, n, m, qs, rfl, _⟩ := h; rfl
  · obtain ⟨b, k, n, m, qs, rfl, h1, hz, o1, kk⟩ := h
    have G_followed := ok_followed (P := P) (base := base) T
    have hnm := hz.lt
    have n0 := hz.n0
    refine ⟨_, (pss_cons (ps_set (i := 2) sc_repeated.nd rfl (Or.inl rfl) (pe_listRg rfl (by rfl) T.n_list (prg_1 (by rfl) T.n_range (pe_callB c_len (by rfl) T.n_len PySem.boot_len (pa_cons (pv 0) pa_nil)))))
      (pss_cons (ps_while PassesOwn.never (pt_cmpR op_gt (pv 1) pe_int (nomark _)) (pss_cons (ps_if (pt_cmpR op_eq (pe_op op_mod (pv 1) pe_int) pe_int (nomark _)) (pss_one (ps_set (i := 2) sc_repeated.nd rfl (Or.inl rfl) (pe_call G_followed (hr.mono (by decide)) (by rfl) T.m_followed T.k_followed T.b_followed .nil pass0 (pa_cons (pv 2) (pa_cons (pv 0) pa_nil))))) pss_nil)
      (pss_cons (ps_set (i := 0) sc_repeated.nd rfl (Or.inl rfl) (pe_call G_followed (hr.mono (by decide)) (by rfl) T.m_followed T.k_followed T.b_followed .nil pass0 (pa_cons (pv 0) (pa_cons (pv 0) pa_nil))))
      (pss_one (ps_set (i := 1) sc_repeated.nd rfl (Or.inl rfl) (pe_op op_fdiv (pv 1) pe_int))))))
      (pss_one (ps_ret (pv 2))))), ?_⟩
    walk_at "rd"
    rw [List.length_map, goals_len]
    refine ⟨RgOk.of_le (by omega) (by omega) (by omega) (by omega), x_new fun r0 H1 e1 f1 g1 => ?_⟩
    rw [rg_ints, show ((List.range (n * m)).map fun i : Nat => (i : Int)) = goalsL n m (rep 0 qs) from (goals_nil n0).symm] at g1
    walk_at "rd"
    refine Er.x_while (fun σ H' => Ex H H' ∧ ∃ (bm br : Addr) (x y c : Nat), σ = [some (.ref bm), some (.int (c : Int)), some (.ref br)] ∧ H' bm = some (.lst ((goalsL n m (rep y qs)).map V.int)) ∧ H' br = some (.lst ((goalsL n m (rep x qs)).map V.int)) ∧ x + y * c = k)
      (fun (σ : L2.St) (_ : Hp) => match σ[1]? with | some (some (V.int i)) => i.toNat | _ => 0) ⟨e1, b, r0, 0, 1, k, rfl, by rw [rep_one]; exact e1.kp _ _ h1 NB.ints, g1, by omega⟩ ?_
    rintro σ H' ⟨ex, bm, br, x, y, c, rfl, hm, hr', inv⟩
    have oy : ∀ q ∈ rep y qs, q.ok n := rep_ok o1
    have ox : ∀ q ∈ rep x qs, q.ok n := rep_ok o1
    have c2 : (c : Int) / 2 = ((c / 2 : Nat) : Int) := by simp
    walk_at "rd"
    · rename_i hc
      refine Er.x_goOn ?_
      walk_at "rd"
      · rename_i ho p1 H3 e3 f3 h3 p2 H4 e4 f4 h4
        rw [c2]
        refine ⟨⟨by walk_at "ex", p2, p1, x + y, y + y, c / 2, rfl, ?_, ?_, ?_⟩, by show ((c / 2 : Nat) : Int).toNat < (c : Int).toNat; omega⟩
        · rw [rep_add]; exact h4
        · rw [rep_add]; exact e4.kp _ _ h3 NB.ints
        · rw [← inv, Nat.add_mul]
          have : y * c = y * (c / 2) + y * (c / 2) + y := by
            rw [← Nat.mul_add, ← Nat.mul_succ]
            congr 1
            omega
          omega
      · rename_i ho p1 H3 e3 f3 h3
        rw [c2]
        refine ⟨⟨by walk_at "ex", p1, br, x, y + y, c / 2, rfl, ?_, e3.kp _ _ hr' NB.ints, ?_⟩, by show ((c / 2 : Nat) : Int).toNat < (c : Int).toNat; omega⟩
        · rw [rep_add]; exact h3
        · rw [← inv, Nat.add_mul]
          have : y * c = y * (c / 2) + y * (c / 2) := by
            rw [← Nat.mul_add]
            congr 1
            omega
          omega
    · rename_i hc
      have c0 : c = 0 := by omega
      subst c0
      have ek : x = k := by omega
      subst ek
      walk_at "rd"
      exact kk br H' ex hr'
/-! pupils moved -/
theorem x_iZipL {ta : TA} {σ : L2.St} {R : It → Hp → Prop} {xs ys : List V} {b c : Addr} (k : ta σ H fun vs H1 => ∃ a b xs ys, vs = [.ref a, .ref b] ∧ SqL K H1 a xs ∧ SqL K H1 b ys ∧ R (Itz K a b) H1) : iZip K ta σ H R := k
def sp_rearranged : Sp := fun vs H Q _ => ∃ (b c : Addr) (n m : Nat) (us : List C) (g : Int → Int → Int), vs = [.ref b, .ref c] ∧ H b = some (.lst ((ord n m g).map V.int)) ∧ H c = some (.lst ((goalsL n m us).map V.int)) ∧ Sz n m ∧ (∀ q ∈ us, q.ok n) ∧ ∀ t H1, Ex H H1 → NF H t → H1 t = some (.lst ((ord n m (ledg us n m g)).map V.int)) → Q (.ref t) H1
theorem u_rearranged (h1 : H b = some (.lst ((ord n m g).map V.int))) (h2 : H c = some (.lst ((goalsL n m us).map V.int))) (hz : Sz n m) (o2 : ∀ q ∈ us, q.ok n) (k : ∀ t H1, Ex H H1 → NF H t → H1 t = some (.lst ((ord n m (ledg us n m g)).map V.int)) → Q (.ref t) H1) : sp_rearranged [.ref b, .ref c] H Q E := ⟨b, c, n, m, us, g, rfl, h1, h2, hz, o2, k⟩
theorem ok_rearranged (T : Txt K w mg a) : FnOk P w K mg base CX0 1 a.a_rearranged a.fd_rearranged ["pupils", "moves"] sp_rearranged := by
  refine T.F_rearranged.ok sc_rearranged (fun vs H Q E h => ?_) (fun cdv A outer s H vs Q E hr h => ?_)
  · obtain ⟨b, c, n, m, us, g, rfl, _⟩ := h; rfl
  · obtain ⟨b, c, n, m, us, g, rfl, h1, h2, hz, o2, k⟩ := h
    have hnm := hz.lt
    have n0 := hz.n0
    refine ⟨_, (pss_cons (ps_set (i := 2) sc_rearranged.nd rfl (Or.inl rfl) (pe_callTy c_listOf (by rfl) T.n_list (by decide +kernel) (pa_cons (pv 0) pa_nil)))
      (pss_cons (ps_for PassesOwn.never rfl (pi_zip (by rfl) T.n_zip (pa_cons (pv 0) (pa_cons (pv 1) pa_nil))) (pg_tup rfl (pgs_cons (pg_name (i := 3) sc_rearranged.nd rfl (Or.inl rfl)) (pgs_cons (pg_name (i := 4) sc_rearranged.nd rfl (Or.inl rfl)) pgs_nil))) (pss_one (ps_asg (pv 3) (pg_sub (pv 2) (pv 4) set_list))))
      (pss_one (ps_ret (pv 2))))), ?_⟩
    walk_at "rd"
    rename_i r0 H1 e1 f1 g1
    refine x_iZipL (xs := []) (ys := []) (b := b) (c := c) ?_
    walk_at "rd"
    refine ⟨b, c, _, _, rfl, SqL.of (e1.kp _ _ h1 NB.ints), SqL.of (e1.kp _ _ h2 NB.ints), ?_⟩
    refine RZ.for_zipL (K := K) (a := b) (b := c) (xs := (ord n m g).map V.int) (ys := (goalsL n m us).map V.int) (by rw [List.length_map, List.length_map, ord_len, goals_len]) (fun i σ H' => ∃ v3 v4 : Option V, σ = [some (.ref b), some (.ref c), some (.ref r0), v3, v4] ∧ Ex H H' ∧ ∃ R : List Int, H' r0 = some (.lst (R.map V.int)) ∧ R.length = n * m ∧ i ≤ n * m ∧ ∀ k j : Nat, k < i → (goalsL n m us)[k]? = some (j : Int) → R[j]? = some (g ((k : Int) / n) ((k : Int) % n)))
      ⟨_, _, rfl, e1, ord n m g, g1, ord_len .., Nat.zero_le _, fun k j hk => absurd hk (Nat.not_lt_zero _)⟩ (fun i σ H' h => ?_) (fun i x y T σ H' hx hy h hT => ?_) (fun σ H' h => ?_)
    · obtain ⟨_, _, _, e, _⟩ := h
      exact ⟨SqL.of (e.kp _ _ h1 NB.ints), SqL.of (e.kp _ _ h2 NB.ints)⟩
    · obtain ⟨v3, v4, rfl, e, R, hR, hRl, hi, inv⟩ := h
      have hi' := (List.getElem?_eq_some_iff.mp hx).1
      rw [List.length_map, ord_len] at hi'
      rw [List.getElem?_map, ord_get hi'] at hx
      have ex : V.int (g ((i : Int) / n) ((i : Int) % n)) = x := Option.some.inj hx
      subst ex
      obtain ⟨j, j1, j2, _⟩ := goal_at (m := m) n0 o2 hi'
      rw [List.getElem?_map, j1] at hy
      have ey : V.int (j : Int) = y := Option.some.inj hy
      subst ey
      have e4 : Ex H' (upd H' T (.tup [.int (g ((i : Int) / n) ((i : Int) % n)), .int (j : Int)])) := Ex.new hT
      have h4 : upd H' T (.tup [.int (g ((i : Int) / n) ((i : Int) % n)), .int (j : Int)]) T = some (.tup [.int (g ((i : Int) / n) ((i : Int) % n)), .int (j : Int)]) := upd_same
      generalize upd H' T (.tup [.int (g ((i : Int) / n) ((i : Int) % n)), .int (j : Int)]) = H4 at e4 h4 ⊢
      have hR4 := e4.kp _ _ hR NB.ints
      refine x_gTup h4 rfl ?_
      walk_at "rd"
      refine x_setL hR4 (ix_nat (by rw [List.length_map, hRl]; exact j2)) ?_
      walk_at "rd"
      refine ⟨_, _, rfl, Er.mutN (e.trans e4) (NF.of f1) hR4 NB.ints, R.set j (g ((i : Int) / n) ((i : Int) % n)), ?_, by rw [List.length_set]; exact hRl, hi', fun k j' hk ek => ?_⟩
      · rw [upd_same, List.map_set]
      · by_cases c : k = i
        · subst c
          rw [j1] at ek
          have : j = j' := by have := Option.some.inj ek; omega
          subst this
          rw [List.getElem?_set_self (by rw [hRl]; exact j2)]
        · have ne : j ≠ j' := fun ee => by
            subst ee
            exact c (goal_inj n0 o2 (by omega) hi' ek j1)
          rw [List.getElem?_set_ne ne]
          exact inv k j' (by omega) ek
    · obtain ⟨v3, v4, rfl, e, R, hR, hRl, hi, inv⟩ := h
      rw [List.length_map, ord_len] at inv
      have eR : R = ord n m (ledg us n m g) := by
        refine List.ext_getElem? fun j => ?_
        by_cases c : j < n * m
        · obtain ⟨k, hk, ek⟩ := goal_onto (m := m) n0 o2 c
          rw [inv k j hk ek, (at_goalG n0 o2 hk ek).2]
        · rw [List.getElem?_eq_none (by omega), List.getElem?_eq_none (by rw [ord_len]; omega)]
      subst eR
      walk_at "rd"
      exact k r0 H' e (NF.of f1) hR
/-! == of lines that stand alike -/
def sp_Line_eq (CL : Addr) : Sp := fun vs H Q _ => ∃ (s t : Addr) (n m : Nat) (g g' : Int → Int → Int), vs = [.ref s, .ref t] ∧ Lin CL H s n m g ∧ Lin CL H t n m g' ∧ ord n m g = ord n m g' ∧ Q (.bl true) H
theorem ok_Line_eq (T : Txt K w mg a) : FnOk P w K mg base CX0 1 a.a_Line_eq a.fd_Line_eq ["self", "other"] (sp_Line_eq a.c_Line) := by
  refine T.F_Line_eq.ok sc_Line_eq (fun vs H Q E h => ?_) (fun cdv A outer s H vs Q E hr h => ?_)
  · obtain ⟨s, t, n, m, g, g', rfl, _⟩ := h; rfl
  · obtain ⟨s, t, n, m, g, g', rfl, ⟨dx, l, h1, h2⟩, ⟨dy, l', k1, k2⟩, e, k⟩ := h
    have cl := T.t_Line.cl
    have ns := T.A_Line_standing
    have nw := T.A_Line_width
    have nd := T.A_Line_depth
    have cx := T.X_Line
    rw [← e] at k2
    refine ⟨_, (pss_one (ps_ret (pe_and (pe_callB call_isi (by rfl) T.n_isinstance (by decide +kernel) (pa_cons (pv 1) (pa_cons (pe_glob (v := .ref a.c_Line) (by rfl) T.m_Line rfl) pa_nil))) (pe_and (pe_cmpR op_eq (pe_fld (pv 0) rfl) (pe_fld (pv 1) rfl) (nomark _)) (pe_and (pe_cmpR op_eq (pe_fld (pv 0) rfl) (pe_fld (pv 1) rfl) (nomark _)) (pe_one (pe_cmpR (op_eqD hr.units) (pe_fld (pv 0) rfl) (pe_fld (pv 1) rfl) (nomark _)))))))), ?_⟩
    walk_at "rd"
    refine Ow.x_isiC k1 cx ?_
    walk_at "rd"
    all_goals try (rename_i hne; exact absurd rfl hne)
    refine x_EqD (.lst (SqL.of h2) dp_ints) (.lst (SqL.of k2) dp_ints) (shaped_ints _) (shaped_ints _) ?_
    rw [eqv_ints]
    exact k
theorem x_neL {X : Cx} {E : XK} (c : Ow.ClsX X.K CL) (h : Lin CL H s n m g) (h' : Lin CL H t n m g') (e : ord n m g = ord n m g') (k : Q (.bl false) H) : Ow.rNeC X CL (sp_Line_eq CL) E (.ref s) (.ref t) H Q := by
  obtain ⟨dx, l, h1, _⟩ := id h
  obtain ⟨dx', l', h1', _⟩ := id h'
  exact Ow.x_neC h1 (Ow.oth_ins h1' c.t) ⟨s, t, n, m, g, g', rfl, h, h', e, true, rfl, k⟩
end
end My

set_option Elab.async false
set_option linter.all false
set_option maxRecDepth 100000
set_option maxHeartbeats 8000000
namespace My
open PySem PySem.Spec PyProof.Rows L2 Sx
local macro_rules | `(tactic| walk_at "nb") => `(tactic| first | exact NB.tup | exact NB.ints | exact NB.len (of_decide_eq_true rfl) | exact NB.at0b rfl | exact NB.at3b rfl | exact NB.ins | exact NB.own | exact NB.frz | exact NB.refs (by assumption) | assumption)
local macro_rules | `(tactic| walk_at "ne") => `(tactic| first | assumption | exact Ne.symm (by assumption) | exact ne_of_none (by assumption) (by assumption) | exact Ne.symm (ne_of_none (by assumption) (by assumption)))
local macro_rules | `(tactic| walk_at "hk") => `(tactic| first
  | assumption
  | exact upd_same
  | (refine' (upd_ne ?hkne).trans ?hkq; (case hkne => walk_at "ne"); (case hkq => walk_at "hk"))
  | (refine' Ex.kp (by assumption) _ _ ?hkq ?hkn; (case hkq => walk_at "hk"); (case hkn => walk_at "nb")))
local macro_rules | `(tactic| walk_at "rd1") => `(tactic| first
  | ((with_reducible refine' x_var ?hx ?_); (case hx => exact rfl))
  | with_reducible refine x_c ?_
  | with_reducible refine x_op ?_
  | with_reducible refine x_un ?_
  | with_reducible refine x_I0 ?_
  | with_reducible refine x_U ?_
  | ((with_reducible refine x_I ?hc ?_); (case hc => first | exact (by decide : (0 : Int) < _) | (show (0 : Int) < _; omega) | (show CMul _ _; first | exact .inl ⟨by omega, by omega⟩ | exact .inr ⟨by omega, by omega⟩) | (show CDiv _ _; exact ⟨by omega, by omega⟩) | (show CDivW _ _; exact wide_div (b := 200) (by omega) (by assumption) (by decide) (by decide)) | (show CDivW _ _; exact wide_div (b := 31) (by omega) (by omega) (by decide) (by decide))))
  | with_reducible refine x_EqI ?_
  | with_reducible refine x_NeI ?_
  | ((with_reducible refine x_EqSt ?h ?_); (case h => decide +kernel))
  | ((with_reducible refine x_EqSf ?h ?_); (case h => decide +kernel))
  | ((with_reducible refine x_NeSt ?h ?_); (case h => decide +kernel))
  | ((with_reducible refine x_NeSf ?h ?_); (case h => decide +kernel))
  | with_reducible refine x_EqS ?_
  | with_reducible refine x_NeS ?_
  | ((with_reducible refine' x_ixL ?hq ?hi ?_); (case hq => walk_at "hk"); (case hi => first | exact rfl | assumption))
  | ((with_reducible refine' x_ixT ?hq ?hi ?_); (case hq => walk_at "hk"); (case hi => first | exact rfl | assumption))
  | with_reducible refine x_chain ?_
  | with_reducible refine x_tup ?_
  | with_reducible refine x_lst ?_
  | ((with_reducible refine x_lenNew ?hl ?_); (case hl => exact Nat.le_of_ble_eq_true rfl); intro _ _ _ _ _)
  | ((with_reducible refine x_new ?_); intro _ _ _ _ _)
  | with_reducible refine x_sl ?_
  | with_reducible refine x_noPart ?_
  | with_reducible refine x_part ?_
  | with_reducible refine x_ex_int ?_
  | with_reducible refine x_ex_bl ?_
  | with_reducible refine x_ex_2 ?_
  | with_reducible refine x_test ?_
  | with_reducible refine x_B ?_
  | with_reducible refine x_and ?_
  | with_reducible refine x_or ?_
  | with_reducible refine x_not ?_
  | with_reducible refine x_andV ?_
  | with_reducible refine x_orV ?_
  | with_reducible refine x_notV ?_
  | with_reducible refine x_ifE ?_
  | with_reducible refine x_iteT ?_
  | with_reducible refine x_iteF ?_
  | ((with_reducible refine x_iteD ?_ ?_) <;> intro _)
  | ((with_reducible refine x_iteN ?_ ?_) <;> intro _)
  | with_reducible refine x_if ?_
  | with_reducible refine x_seq ?_
  | with_reducible refine x_next ?_
  | with_reducible refine x_asg ?_
  | with_reducible refine x_gName ?_
  | ((with_reducible refine' x_gTup ?hq ?hn ?_); (case hq => walk_at "hk"); (case hn => exact rfl))
  | with_reducible refine x_gCons ?_
  | with_reducible refine x_gNil ?_
  | ((with_reducible refine' x_gConsE ?h ?_); (case h => exact rfl))
  | ((with_reducible refine x_gNilE ?h ?_); (case h => exact rfl))
  | with_reducible refine x_ret ?_
  | with_reducible refine x_drop ?_
  | with_reducible refine x_par ?_
  | ((with_reducible refine' x_aug ?hx ?_); (case hx => exact rfl))
  | with_reducible refine x_ipI ?_
  | with_reducible refine x_augS ?_
  | with_reducible refine x_gSub ?_
  | ((with_reducible refine' x_setL ?hq ?hi ?_); (case hq => walk_at "hk"); (case hi => first | exact rfl | assumption))
  | with_reducible refine x_cons ?_
  | with_reducible refine x_nil ?_
  | with_reducible refine x_CB ?_
  | with_reducible refine x_abs ?_
  | with_reducible refine x_intI ?_
  | with_reducible refine x_intB ?_
  | ((with_reducible refine' x_lenL ?hq ?_); (case hq => walk_at "hk"))
  | ((with_reducible refine' x_lenT ?hq ?_); (case hq => walk_at "hk"))
  | ((with_reducible refine x_iteTe ?h ?_); (case h => exact rfl))
  | ((with_reducible refine x_iteFe ?h ?_); (case h => exact rfl))
  | walk_at "use"
  | with_reducible refine x_callS ?_
  | ((with_reducible refine x_lc ?_))
  | ((with_reducible refine x_for ?_))
  | ((with_reducible refine x_iR1 ?_))
  | ((with_reducible refine x_iL ?_))
  | ((with_reducible refine x_iZ ?_))
  | ((with_reducible refine x_yes ?_))
  | ((with_reducible refine' x_NIDt ?hq ?_); (case hq => assumption))
  | ((with_reducible refine' x_NIDf ?hq ?_); (case hq => assumption))
  | ((with_reducible refine' x_IIDf ?hq ?_); (case hq => assumption))
  | ((with_reducible refine' x_IIDt ?hq ?_); (case hq => assumption))
  | ((with_reducible refine' x_ixDs ?hd ?hq ?_); (case hd => assumption); (case hq => assumption))
  | ((with_reducible refine x_InSt ?h ?_); (case h => decide +kernel))
  | ((with_reducible refine x_InSf ?h ?_); (case h => decide +kernel))
  | ((with_reducible refine' x_notInI ?hq ?_); (case hq => walk_at "hk"))
  | ((with_reducible refine' x_inTt ?hq ?hv ?ha ?he ?_); (case hq => walk_at "hk"); (case hv => exact rfl); (case ha => exact rfl); (case he => decide +kernel))
  | ((with_reducible refine' x_inTf ?hq ?hv ?ha ?he ?_); (case hq => walk_at "hk"); (case hv => exact rfl); (case ha => exact rfl); (case he => decide +kernel))
  | ((with_reducible refine' x_slT ?hq ?hw ?_); (case hq => walk_at "hk"); (case hw => with_unfolding_all exact of_decide_eq_true rfl))
  | ((with_reducible refine' x_slL ?hq ?_); (case hq => walk_at "hk"))
  | ((with_reducible refine' x_catT ?hq ?hr ?n1 ?n2 ?hl ?_); (case hq => walk_at "hk"); (case hr => walk_at "hk"); (case n1 => exact List.cons_ne_nil _ _); (case n2 => exact List.cons_ne_nil _ _); (case hl => exact Nat.le_of_ble_eq_true rfl))
  | ((with_reducible refine x_bm ?_))
  | ((with_reducible refine x_lstRg ?_))
  | ((with_reducible refine x_rg1 ?_))
  | ((with_reducible refine And.intro ?h ?_); (case h => exact tyL (by assumption)))
  | dsimp only)
local macro_rules | `(tactic| walk_at "use") => `(tactic| fail)
local macro_rules | `(tactic| walk_at "rd") => `(tactic| repeat' (walk_at "rd1"))
local macro_rules | `(tactic| walk_at "ex") => `(tactic| first | exact Ex.refl _ | assumption | (refine' Ex.trans ?he (by assumption); (case he => walk_at "ex")))
local macro_rules | `(tactic| walk_at "rd1") => `(tactic| first
  | ((with_reducible refine x_iteDf ?h ?_); (case h => exact rfl))
  | ((with_reducible refine x_iteDt ?h ?_); (case h => exact rfl))
  | ((with_reducible refine x_iteNf ?h ?_); (case h => exact rfl))
  | ((with_reducible refine x_iteNt ?h ?_); (case h => exact rfl))
  | ((with_reducible refine x_isiI (r := true) ?h ?_); (case h => decide +kernel))
  | ((with_reducible refine x_isiI (r := false) ?h ?_); (case h => decide +kernel))
  | ((with_reducible refine x_isiS (r := true) ?h ?_); (case h => decide +kernel))
  | ((with_reducible refine x_isiS (r := false) ?h ?_); (case h => decide +kernel))
  | ((with_reducible refine x_isiB (r := true) ?h ?_); (case h => decide +kernel))
  | ((with_reducible refine x_isiB (r := false) ?h ?_); (case h => decide +kernel))
  | ((with_reducible refine' x_isiT (r := true) ?hp ?h ?_); (case hp => walk_at "hk"); (case h => decide +kernel))
  | ((with_reducible refine' x_isiT (r := false) ?hp ?h ?_); (case hp => walk_at "hk"); (case h => decide +kernel))
  | ((with_reducible refine' x_isiL (r := true) ?hp ?h ?_); (case hp => walk_at "hk"); (case h => decide +kernel))
  | ((with_reducible refine' x_isiL (r := false) ?hp ?h ?_); (case hp => walk_at "hk"); (case h => decide +kernel))
  | ((with_reducible refine' x_isi2L ?hp ?hl ?_); (case hp => walk_at "hk"); (case hl => walk_at "hk"))
  | ((with_reducible refine' x_isi2T ?hp ?hl ?_); (case hp => walk_at "hk"); (case hl => walk_at "hk"))
  | ((with_reducible refine' x_tupOfL ?hq ?_); (case hq => walk_at "hk"))
  | ((with_reducible refine' x_tupOfT ?hq ?_); (case hq => walk_at "hk"))
  | ((with_reducible refine x_lenS ?h ?_); (case h => exact Nat.le_of_ble_eq_true rfl))
  | ((with_reducible refine' x_all ?hq ?_); (case hq => walk_at "hk"))
  | with_reducible refine x_lenSet ?_)
local macro_rules | `(tactic| walk_at "nb") => `(tactic| first | exact NB.xd | exact NB.dK)
local macro_rules | `(tactic| walk_at "rd1") => `(tactic| first
  | with_reducible refine Er.x_par3 ?_
  | with_reducible refine Er.x_ex_3 ?_
  | with_reducible refine Er.x_revL0 ?_
  | ((with_reducible refine' Er.x_revL ?hq ?_); (case hq => walk_at "hk"))
  | with_reducible refine Er.x_dget2 ?_
  | with_reducible refine x_dict0 ?_
  | ((with_reducible refine x_pow ?hc ?_); (case hc => exact ⟨by decide, by decide, by decide⟩))
  | ((with_reducible refine And.intro ?h ?_); (case h => exact tyL (by walk_at "hk")))
  | ((with_reducible refine' Er.x_dis ?hq ?_); (case hq => walk_at "hk"))
  | ((with_reducible refine' Er.x_dgo ?hq ?he ?_); (case hq => walk_at "hk"); (case he => exact rfl)))
local macro_rules | `(tactic| walk_at "rd1") => `(tactic| first
  | with_reducible refine Er.x_iR2 ?_
  | with_reducible refine Er.x_iEn ?_
  | with_reducible refine Er.x_cont ?_
  | ((with_reducible refine Er.x_isBt ?h ?_); (case h => exact rfl))
  | ((with_reducible refine Er.x_isBf ?h ?_); (case h => exact rfl))
  | ((with_reducible refine Er.x_isNBt ?h ?_); (case h => exact rfl))
  | ((with_reducible refine Er.x_isNBf ?h ?_); (case h => exact rfl))
  | with_reducible refine Er.x_isB ?_
  | with_reducible refine Er.x_isNB ?_)

open Cl
local macro_rules | `(tactic| walk_at "nb") => `(tactic| first | exact NB.ints | assumption | (refine Ow.Refs.nb ?_; assumption))
local macro_rules | `(tactic| walk_at "rd1") => `(tactic| first
  | with_reducible refine x_iT ?_
  | with_reducible refine x_fld ?_
  | ((with_reducible refine' x_fldK ?h ?c ?n ?l ?_); (case h => walk_at "hk"); (case c => assumption); (case n => assumption); (case l => first | exact rfl | assumption))
  | ((with_reducible refine' x_listOfL ?h ?_); (case h => walk_at "hk")))
local macro_rules | `(tactic| walk_at "sc") => `(tactic| first | assumption | (refine' Scr.mono ?hscr ?escr; (case hscr => assumption); (case escr => walk_at "ex")))
local macro_rules | `(tactic| walk_at "rd1") => `(tactic| first
  | with_reducible refine x_iT ?_
  | with_reducible refine Ow.x_bm0 ?_
  | with_reducible refine x_make ?_
  | with_reducible refine Ow.x_meth ?_
  | with_reducible refine Ow.x_prop ?_
  | with_reducible refine Ow.x_iOwn ?_
  | ((with_reducible refine' x_methS ?h ?l ?_); (case h => walk_at "sc"); (case l => intro _ _; exact rfl))
  | ((with_reducible refine' x_propS ?h ?_); (case h => walk_at "sc"))
  | ((with_reducible refine' u_sfiles ?h ?_); (case h => walk_at "sc"))
  | ((with_reducible refine' u_ssize ?h ?hl ?_); (case h => walk_at "sc"); (case hl => omega); intro _ _)
  | ((with_reducible refine' u_scalls ?h ?_); (case h => walk_at "sc"); intro _ _ _ _ _ _ _)
  | ((with_reducible refine' u_sstraight ?h ?hl ?_); (case h => walk_at "sc"); (case hl => omega); intro _ _)
  | ((with_reducible refine' x_lenS' ?e ?h ?hl ?_); (case e => exact rfl); (case h => walk_at "sc"); (case hl => omega))
  | ((with_reducible refine' x_listS ?e ?h ?_); (case e => exact rfl); (case h => walk_at "sc"); intro _ _ _ _ _ _ _)
  | ((with_reducible refine' x_eqS ?c ?h ?h' ?_); (case c => assumption); (case h => walk_at "sc"); (case h' => walk_at "sc"))
  | ((with_reducible refine' x_neS ?c ?h ?h' ?_); (case c => assumption); (case h => walk_at "sc"); (case h' => walk_at "sc"))
  | ((with_reducible refine' x_eqSL ?c ?h ?h' ?_); (case c => assumption); (case h => walk_at "sc"); (case h' => walk_at "hk"))
  | ((with_reducible refine' x_eqST ?c ?h ?h' ?_); (case c => assumption); (case h => walk_at "sc"); (case h' => walk_at "hk"))
  | ((with_reducible refine' x_eqSI ?c ?h ?_); (case c => assumption); (case h => walk_at "sc")))
section
variable {P : Program} {w : World} {K : PySem.W.Frag} {mg : Str → Option Value} {base : Heap} {a : Ad} {H H1 H2 : Hp} {Q : VK} {E : XK} {p b c t s dx l : Addr} {fl gl r : Int} {xs ps : List V} {q : C} {qs us : List C} {n m : Nat} {g g' : Int → Int → Int} {ls : List (List Int)} {CS CL : Addr} {fs : List (Str × V)}
open Er
/-- one new object changed since -/
theorem Exs.ex (x : Exs t H1 H2) (e : Ex H H1) (f : NF H t) : Ex H H2 := by
  refine ⟨fun a o h nb => x.kp a o (fun ea => f o nb (ea ▸ h)) (e.kp a o h nb) nb, fun b c h => x.bg b c (e.bg b c h)⟩
/-! do(call) -/
def sp_Line_doC (CL : Addr) : Sp := fun vs H Q _ => ∃ (s p : Addr) (n m : Nat) (g : Int → Int → Int) (q : C), vs = [.ref s, .ref p] ∧ Lin CL H s n m g ∧ H p = some (.tup q.vals) ∧ q.ok n ∧ Sz n m ∧ ∀ H1, Exs s H H1 → Lin CL H1 s n m (mvg q n m g) → Q .non H1
theorem ok_Line_doC (T : Txt K w mg a) : FnOk P w K mg base CX0 5 a.a_Line_do a.fd_Line_do ["self", "thing"] (sp_Line_doC a.c_Line) := by
  refine T.F_Line_do.ok sc_Line_do (fun vs H Q E h => ?_) (fun cdv A outer s H vs Q E hr h => ?_)
  · obtain ⟨s, p, n, m, g, q, rfl, _⟩ := h; rfl
  · obtain ⟨s, p, n, m, g, q, rfl, ⟨dx, l, h1, h2⟩, hp, ho, hz, k⟩ := h
    have cl := T.t_Line.cl
    have ns := T.A_Line_standing
    have nw := T.A_Line_width
    have G_is_call := ok_is_call (P := P) (base := base) T
    have G_order_of := ok_order_of (P := P) (base := base) T
    have G_columns_led := ok_columns_led (P := P) (base := base) T
    have G_columns_of := ok_columns_of (P := P) (base := base) T
    have G_Script_files := ok_Script_files (P := P) (base := base) T
    have G_Script_calls := ok_Script_calls (P := P) (base := base) T
    refine ⟨_, (pss_cons (ps_if (pt_val (pe_call G_is_call (hr.mono (by decide)) (by rfl) T.m_is_call T.k_is_call T.b_is_call .nil pass0 (pa_cons (pe_fld (pv 0) rfl) (pa_cons (pv 1) pa_nil)))) (pss_one (ps_set (i := 2) sc_Line_do.nd rfl (Or.inl rfl) (pe_lst (pa_cons (pv 1) pa_nil)))) (pss_one (ps_if (PW.pt (pw_and (pt_val (pe_callB call_isi (by rfl) T.n_isinstance (by decide +kernel) (pa_cons (pv 1) (pa_cons (pe_glob (v := .ref a.c_Script) (by rfl) T.m_Script rfl) pa_nil)))) (pw_and1 (pt_cmpR op_eq (pe_prop (pv 1) T.t_Script.cl T.P_Script_files G_Script_files (hr.mono (by decide)) T.b_Script_files .nil pass0 rfl) (pe_fld (pv 0) rfl) (nomark _))))) (pss_one (ps_set (i := 2) sc_Line_do.nd rfl (Or.inl rfl) (pe_meth0 (pv 1) T.t_Script.cl T.Q_Script_calls G_Script_calls (hr.mono (by decide)) T.b_Script_calls .nil pass0))) (pss_one ps_never))))
      (pss_one (ps_fld (pv 0) (pe_call G_order_of (hr.mono (by decide)) (by rfl) T.m_order_of T.k_order_of T.b_order_of .nil pass0 (pa_cons (pe_call G_columns_led (hr.mono (by decide)) (by rfl) T.m_columns_led T.k_columns_led T.b_columns_led .nil pass0 (pa_cons (pe_call G_columns_of (hr.mono (by decide)) (by rfl) T.m_columns_of T.k_columns_of T.b_columns_of .nil pass0 (pa_cons (pe_fld (pv 0) rfl) (pa_cons (pe_fld (pv 0) rfl) pa_nil))) (pa_cons (pv 2) pa_nil))) pa_nil)) rfl))), ?_⟩
    walk_at "rd"
    refine u_is_call hp ho.good fun H0 e0 => ?_
    walk_at "rd"
    rename_i c H2 e2 f2 h3
    have c3 : Cls H2 [.ref p] [q] := .cons ((e0.trans e2).kp _ _ hp NB.tup) .nil
    refine x_setF ?_
    have h1x := (e0.trans e2).kp _ _ h1 NB.ins
    walk_at "rd"
    refine u_columns_of (n := n) (m := m) (h := fun i => g (i / n) (i % n)) hz ((e0.trans e2).kp _ _ h2 NB.ints) fun t1 H3 e3 h4 => ?_
    rw [back_tab hz] at h4
    walk_at "rd"
    refine u_columns_led (qs := [q]) (e3.kp _ _ h3 c3.nb) (c3.ex e3) (fun q' hq => by rw [List.mem_singleton.mp hq]; exact ho) hz h4 fun t2 H4 e4 h5 => ?_
    walk_at "rd"
    refine u_order_of hz h5 fun t3 H5 e5 f5 h6 => ?_
    walk_at "rd"
    have e25 : Ex H H5 := (e0.trans e2).trans ((e3.trans e4).trans e5)
    have h1' := e25.kp _ _ h1 NB.ins
    refine x_setK h1' cl ns (lflds_len _ _ _) ?_
    have ne : t3 ≠ s := fun e => by rw [e] at h6; rw [h6] at h1'; cases h1'
    rw [lflds_put]
    walk_at "rd"
    exact k _ (Exs.of e25 h1 (fun _ _ _ _ e => by cases e) (fun _ e => by cases e)) ⟨dx, t3, upd_same, by rw [upd_ne ne]; exact h6⟩
/-! go -/
def sp_Line_go (CS CL : Addr) : Sp := fun vs H Q _ => ∃ (s t : Addr) (n m : Nat) (g : Int → Int → Int) (qs : List C) (k : Int), vs = [.ref s, .ref t, .int k] ∧ Lin CL H s n m g ∧ Scr CS H t n qs ∧ (∀ q ∈ qs, q.ok n) ∧ qs.length ≤ 400 ∧ Sz n m ∧ ∀ H1, Exs s H H1 → Lin CL H1 s n m (ledg (sg k qs) n m g) → Q .non H1
theorem ok_Line_go (T : Txt K w mg a) : FnOk P w K mg base CX0 9 a.a_Line_go a.fd_Line_go ["self", "script", "rounds"] (sp_Line_go a.c_Script a.c_Line) := by
  refine T.F_Line_go.ok sc_Line_go (fun vs H Q E h => ?_) (fun cdv A outer s H vs Q E hr h => ?_)
  · obtain ⟨s, t, n, m, g, qs, k, rfl, _⟩ := h; rfl
  · obtain ⟨s, t, n, m, g, qs, k, rfl, ⟨dx, l, h1, h2⟩, hs, ho, hl, hz, kk⟩ := h
    have cl := T.t_Line.cl
    have ns := T.A_Line_standing
    have nw := T.A_Line_width
    have nd := T.A_Line_depth
    have G_moves_of := ok_moves_of (P := P) (base := base) T
    have G_rearranged := ok_rearranged (P := P) (base := base) T
    have G_repeated := ok_repeated (P := P) (base := base) T
    have G_Script_files := ok_Script_files (P := P) (base := base) T
    have G_Script_invert := ok_Script_invert (P := P) (base := base) T
    have f2 := hz.two.1
    have f3 := hz.two.2
    have n0 := hz.n0
    refine ⟨_, (pss_cons (ps_if (pt_cmpR op_ne (pe_prop (pv 1) T.t_Script.cl T.P_Script_files G_Script_files (hr.mono (by decide)) T.b_Script_files .nil pass0 rfl) (pe_fld (pv 0) rfl) (nomark _)) (pss_one ps_never) pss_nil)
      (pss_cons (ps_set (i := 3) sc_Line_go.nd rfl (Or.inl rfl) (pe_call G_moves_of (hr.mono (by decide)) (by rfl) T.m_moves_of T.k_moves_of T.b_moves_of .nil pass0 (pa_cons (pe_ifExp (pt_cmpR op_ge (pv 2) pe_int (nomark _)) (pv 1) (pe_un (Ow.un_invOwn G_Script_invert T.Q_Script_invert.at_ T.Q_Script_invert.fn T.b_Script_invert pass0 (hr.mono (by decide))) (pv 1))) (pa_cons (pe_fld (pv 0) rfl) pa_nil))))
      (pss_one (ps_fld (pv 0) (pe_call G_rearranged (hr.mono (by decide)) (by rfl) T.m_rearranged T.k_rearranged T.b_rearranged .nil pass0 (pa_cons (pe_fld (pv 0) rfl) (pa_cons (pe_call G_repeated (hr.mono (by decide)) (by rfl) T.m_repeated T.k_repeated T.b_repeated .nil pass0 (pa_cons (pv 3) (pa_cons (pe_callB c_abs (by rfl) T.n_abs (by decide +kernel) (pa_cons (pv 2) pa_nil)) pa_nil))) pa_nil))) rfl)))), ?_⟩
    walk_at "rd"
    all_goals try (rename_i hne; exact absurd rfl hne)
    · have hk : 0 ≤ k := by assumption
      refine u_moves_of hs ho hl hz fun t1 H1 e1 _ g1 => ?_
      rw [moves_goals n0 ho] at g1
      walk_at "rd"
      refine x_setF ?_
      have h1x := e1.kp _ _ h1 NB.ins
      walk_at "rd"
      rw [show (if k < 0 then -k else k) = ((k.natAbs : Nat) : Int) by split <;> omega]
      refine u_repeated g1 hz ho fun t2 H3 e3 g2 => ?_
      walk_at "rd"
      refine u_rearranged ((e1.trans e3).kp _ _ h2 NB.ints) g2 hz (rep_ok ho) fun t3 H4 e4 f4 g3 => ?_
      walk_at "rd"
      have eA := (e1.trans e3).trans e4
      have h1' := eA.kp _ _ h1 NB.ins
      refine x_setK h1' cl ns (lflds_len _ _ _) ?_
      have ne : t3 ≠ s := fun e => by rw [e] at g3; rw [g3] at h1'; cases h1'
      rw [lflds_put]
      walk_at "rd"
      refine kk _ (Exs.of eA h1 (fun _ _ _ _ e => by cases e) (fun _ e => by cases e)) ⟨dx, t3, upd_same, ?_⟩
      rw [upd_ne ne, g3, sg, if_pos hk]
    · have hk : ¬ 0 ≤ k := by omega
      refine x_invS hs (fun q hq => (ho q hq).good) f2 f3 hl fun p1 H1 e1 sc => ?_
      walk_at "rd"
      refine u_moves_of sc (ok_rev ho) (by simp; omega) hz fun t1 H2 e2 _ g1 => ?_
      rw [moves_goals n0 (ok_rev ho)] at g1
      walk_at "rd"
      refine x_setF ?_
      have e12 := e1.trans ‹Ex H1 H2›
      have h1x := e12.kp _ _ h1 NB.ins
      walk_at "rd"
      rw [show (if k < 0 then -k else k) = ((k.natAbs : Nat) : Int) by split <;> omega]
      refine u_repeated g1 hz (ok_rev ho) fun t2 H3 e3 g2 => ?_
      walk_at "rd"
      refine u_rearranged ((e12.trans e3).kp _ _ h2 NB.ints) g2 hz (rep_ok (ok_rev ho)) fun t3 H4 e4 f4 g3 => ?_
      walk_at "rd"
      have eA := (e12.trans e3).trans e4
      have h1' := eA.kp _ _ h1 NB.ins
      refine x_setK h1' cl ns (lflds_len _ _ _) ?_
      have ne : t3 ≠ s := fun e => by rw [e] at g3; rw [g3] at h1'; cases h1'
      rw [lflds_put]
      walk_at "rd"
      refine kk _ (Exs.of eA h1 (fun _ _ _ _ e => by cases e) (fun _ e => by cases e)) ⟨dx, t3, upd_same, ?_⟩
      rw [upd_ne ne, g3, sg, if_neg hk]
/-! copied -/
def sp_Line_copied (CL : Addr) : Sp := fun vs H Q _ => ∃ (s : Addr) (n m : Nat) (g : Int → Int → Int), vs = [.ref s] ∧ Lin CL H s n m g ∧ Sz n m ∧ m ≤ 400 ∧ ∀ t H1, Ex H H1 → H t = none → Lin CL H1 t n m g → Q (.ref t) H1
theorem ok_Line_copied (T : Txt K w mg a) : FnOk P w K mg base CX0 5 a.a_Line_copied a.fd_Line_copied ["self"] (sp_Line_copied a.c_Line) := by
  refine T.F_Line_copied.ok sc_Line_copied (fun vs H Q E h => ?_) (fun cdv A outer s H vs Q E hr h => ?_)
  · obtain ⟨s, n, m, g, rfl, _⟩ := h; rfl
  · obtain ⟨s, n, m, g, rfl, ⟨dx, l, h1, h2⟩, hz, hm, k⟩ := h
    have cl := T.t_Line.cl
    have ns := T.A_Line_standing
    have nw := T.A_Line_width
    have nd := T.A_Line_depth
    have G_Line_init := ok_Line_init (P := P) (base := base) T
    have G_Line_order := ok_Line_order (P := P) (base := base) T
    refine ⟨_, (pss_cons (ps_set (i := 1) sc_Line_copied.nd rfl (Or.inl rfl) (pe_make T.M_Line G_Line_init (hr.mono (by decide)) (by rfl) T.m_Line T.b_Line_init .nil pass0 (pa_cons (pe_fld (pv 0) rfl) (pa_cons (pe_fld (pv 0) rfl) pa_nil))))
      (pss_cons (ps_fld (pv 1) (pe_meth0 (pv 0) T.t_Line.cl T.Q_Line_order G_Line_order (hr.mono (by decide)) T.b_Line_order .nil pass0) rfl)
      (pss_one (ps_ret (pv 1))))), ?_⟩
    walk_at "rd"
    refine u_makeL hz hm fun x H1 e1 f1 lx => ?_
    walk_at "rd"
    refine x_setF ?_
    have lg : Lin a.c_Line H1 s n m g := Lin.mono ⟨dx, l, h1, h2⟩ e1
    obtain ⟨dy, l2, x1, x2⟩ := lx
    walk_at "rd"
    refine x_methL lg (fun _ => rfl) ?_
    walk_at "rd"
    refine ⟨s, n, m, g, rfl, lg, fun t2 H2 e2 f2 g2 => ?_⟩
    walk_at "rd"
    have x1' := e2.kp _ _ x1 NB.ins
    refine x_setK x1' cl ns (lflds_len _ _ _) ?_
    have ne : t2 ≠ x := fun e => by rw [e] at g2; rw [g2] at x1'; cases x1'
    rw [lflds_put]
    walk_at "rd"
    exact k x _ (Ex.mut (e1.trans e2) f1) f1 ⟨dy, t2, upd_same, by rw [upd_ne ne]; exact g2⟩
end
end My

set_option Elab.async false
set_option linter.all false
set_option maxRecDepth 100000
set_option maxHeartbeats 8000000
namespace My
open PySem PySem.Spec PyProof.Rows L2 Sx
local macro_rules | `(tactic| walk_at "nb") => `(tactic| first | exact NB.tup | exact NB.ints | exact NB.len (of_decide_eq_true rfl) | exact NB.at0b rfl | exact NB.at3b rfl | exact NB.ins | exact NB.own | exact NB.frz | exact NB.refs (by assumption) | assumption)
local macro_rules | `(tactic| walk_at "ne") => `(tactic| first | assumption | exact Ne.symm (by assumption) | exact ne_of_none (by assumption) (by assumption) | exact Ne.symm (ne_of_none (by assumption) (by assumption)))
local macro_rules | `(tactic| walk_at "hk") => `(tactic| first
  | assumption
  | exact upd_same
  | (refine' (upd_ne ?hkne).trans ?hkq; (case hkne => walk_at "ne"); (case hkq => walk_at "hk"))
  | (refine' Ex.kp (by assumption) _ _ ?hkq ?hkn; (case hkq => walk_at "hk"); (case hkn => walk_at "nb")))
local macro_rules | `(tactic| walk_at "rd1") => `(tactic| first
  | ((with_reducible refine' x_var ?hx ?_); (case hx => exact rfl))
  | with_reducible refine x_c ?_
  | with_reducible refine x_op ?_
  | with_reducible refine x_un ?_
  | with_reducible refine x_I0 ?_
  | with_reducible refine x_U ?_
  | ((with_reducible refine x_I ?hc ?_); (case hc => first | exact (by decide : (0 : Int) < _) | (show (0 : Int) < _; omega) | (show CMul _ _; first | exact .inl ⟨by omega, by omega⟩ | exact .inr ⟨by omega, by omega⟩) | (show CDiv _ _; exact ⟨by omega, by omega⟩) | (show CDivW _ _; exact wide_div (b := 200) (by omega) (by assumption) (by decide) (by decide)) | (show CDivW _ _; exact wide_div (b := 31) (by omega) (by omega) (by decide) (by decide))))
  | with_reducible refine x_EqI ?_
  | with_reducible refine x_NeI ?_
  | ((with_reducible refine x_EqSt ?h ?_); (case h => decide +kernel))
  | ((with_reducible refine x_EqSf ?h ?_); (case h => decide +kernel))
  | ((with_reducible refine x_NeSt ?h ?_); (case h => decide +kernel))
  | ((with_reducible refine x_NeSf ?h ?_); (case h => decide +kernel))
  | with_reducible refine x_EqS ?_
  | with_reducible refine x_NeS ?_
  | ((with_reducible refine' x_ixL ?hq ?hi ?_); (case hq => walk_at "hk"); (case hi => first | exact rfl | assumption))
  | ((with_reducible refine' x_ixT ?hq ?hi ?_); (case hq => walk_at "hk"); (case hi => first | exact rfl | assumption))
  | with_reducible refine x_chain ?_
  | with_reducible refine x_tup ?_
  | with_reducible refine x_lst ?_
  | ((with_reducible refine x_lenNew ?hl ?_); (case hl => exact Nat.le_of_ble_eq_true rfl); intro _ _ _ _ _)
  | ((with_reducible refine x_new ?_); intro _ _ _ _ _)
  | with_reducible refine x_sl ?_
  | with_reducible refine x_noPart ?_
  | with_reducible refine x_part ?_
  | with_reducible refine x_ex_int ?_
  | with_reducible refine x_ex_bl ?_
  | with_reducible refine x_ex_2 ?_
  | with_reducible refine x_test ?_
  | with_reducible refine x_B ?_
  | with_reducible refine x_and ?_
  | with_reducible refine x_or ?_
  | with_reducible refine x_not ?_
  | with_reducible refine x_andV ?_
  | with_reducible refine x_orV ?_
  | with_reducible refine x_notV ?_
  | with_reducible refine x_ifE ?_
  | with_reducible refine x_iteT ?_
  | with_reducible refine x_iteF ?_
  | ((with_reducible refine x_iteD ?_ ?_) <;> intro _)
  | ((with_reducible refine x_iteN ?_ ?_) <;> intro _)
  | with_reducible refine x_if ?_
  | with_reducible refine x_seq ?_
  | with_reducible refine x_next ?_
  | with_reducible refine x_asg ?_
  | with_reducible refine x_gName ?_
  | ((with_reducible refine' x_gTup ?hq ?hn ?_); (case hq => walk_at "hk"); (case hn => exact rfl))
  | with_reducible refine x_gCons ?_
  | with_reducible refine x_gNil ?_
  | ((with_reducible refine' x_gConsE ?h ?_); (case h => exact rfl))
  | ((with_reducible refine x_gNilE ?h ?_); (case h => exact rfl))
  | with_reducible refine x_ret ?_
  | with_reducible refine x_drop ?_
  | with_reducible refine x_par ?_
  | ((with_reducible refine' x_aug ?hx ?_); (case hx => exact rfl))
  | with_reducible refine x_ipI ?_
  | with_reducible refine x_augS ?_
  | with_reducible refine x_gSub ?_
  | ((with_reducible refine' x_setL ?hq ?hi ?_); (case hq => walk_at "hk"); (case hi => first | exact rfl | assumption))
  | with_reducible refine x_cons ?_
  | with_reducible refine x_nil ?_
  | with_reducible refine x_CB ?_
  | with_reducible refine x_abs ?_
  | with_reducible refine x_intI ?_
  | with_reducible refine x_intB ?_
  | ((with_reducible refine' x_lenL ?hq ?_); (case hq => walk_at "hk"))
  | ((with_reducible refine' x_lenT ?hq ?_); (case hq => walk_at "hk"))
  | ((with_reducible refine x_iteTe ?h ?_); (case h => exact rfl))
  | ((with_reducible refine x_iteFe ?h ?_); (case h => exact rfl))
  | walk_at "use"
  | with_reducible refine x_callS ?_
  | ((with_reducible refine x_lc ?_))
  | ((with_reducible refine x_for ?_))
  | ((with_reducible refine x_iR1 ?_))
  | ((with_reducible refine x_iL ?_))
  | ((with_reducible refine x_iZ ?_))
  | ((with_reducible refine x_yes ?_))
  | ((with_reducible refine' x_NIDt ?hq ?_); (case hq => assumption))
  | ((with_reducible refine' x_NIDf ?hq ?_); (case hq => assumption))
  | ((with_reducible refine' x_IIDf ?hq ?_); (case hq => assumption))
  | ((with_reducible refine' x_IIDt ?hq ?_); (case hq => assumption))
  | ((with_reducible refine' x_ixDs ?hd ?hq ?_); (case hd => assumption); (case hq => assumption))
  | ((with_reducible refine x_InSt ?h ?_); (case h => decide +kernel))
  | ((with_reducible refine x_InSf ?h ?_); (case h => decide +kernel))
  | ((with_reducible refine' x_notInI ?hq ?_); (case hq => walk_at "hk"))
  | ((with_reducible refine' x_inTt ?hq ?hv ?ha ?he ?_); (case hq => walk_at "hk"); (case hv => exact rfl); (case ha => exact rfl); (case he => decide +kernel))
  | ((with_reducible refine' x_inTf ?hq ?hv ?ha ?he ?_); (case hq => walk_at "hk"); (case hv => exact rfl); (case ha => exact rfl); (case he => decide +kernel))
  | ((with_reducible refine' x_slT ?hq ?hw ?_); (case hq => walk_at "hk"); (case hw => with_unfolding_all exact of_decide_eq_true rfl))
  | ((with_reducible refine' x_slL ?hq ?_); (case hq => walk_at "hk"))
  | ((with_reducible refine' x_catT ?hq ?hr ?n1 ?n2 ?hl ?_); (case hq => walk_at "hk"); (case hr => walk_at "hk"); (case n1 => exact List.cons_ne_nil _ _); (case n2 => exact List.cons_ne_nil _ _); (case hl => exact Nat.le_of_ble_eq_true rfl))
  | ((with_reducible refine x_bm ?_))
  | ((with_reducible refine x_lstRg ?_))
  | ((with_reducible refine x_rg1 ?_))
  | ((with_reducible refine And.intro ?h ?_); (case h => exact tyL (by assumption)))
  | dsimp only)
local macro_rules | `(tactic| walk_at "use") => `(tactic| fail)
local macro_rules | `(tactic| walk_at "rd") => `(tactic| repeat' (walk_at "rd1"))
local macro_rules | `(tactic| walk_at "ex") => `(tactic| first | exact Ex.refl _ | assumption | (refine' Ex.trans ?he (by assumption); (case he => walk_at "ex")))
local macro_rules | `(tactic| walk_at "rd1") => `(tactic| first
  | ((with_reducible refine x_iteDf ?h ?_); (case h => exact rfl))
  | ((with_reducible refine x_iteDt ?h ?_); (case h => exact rfl))
  | ((with_reducible refine x_iteNf ?h ?_); (case h => exact rfl))
  | ((with_reducible refine x_iteNt ?h ?_); (case h => exact rfl))
  | ((with_reducible refine x_isiI (r := true) ?h ?_); (case h => decide +kernel))
  | ((with_reducible refine x_isiI (r := false) ?h ?_); (case h => decide +kernel))
  | ((with_reducible refine x_isiS (r := true) ?h ?_); (case h => decide +kernel))
  | ((with_reducible refine x_isiS (r := false) ?h ?_); (case h => decide +kernel))
  | ((with_reducible refine x_isiB (r := true) ?h ?_); (case h => decide +kernel))
  | ((with_reducible refine x_isiB (r := false) ?h ?_); (case h => decide +kernel))
  | ((with_reducible refine' x_isiT (r := true) ?hp ?h ?_); (case hp => walk_at "hk"); (case h => decide +kernel))
  | ((with_reducible refine' x_isiT (r := false) ?hp ?h ?_); (case hp => walk_at "hk"); (case h => decide +kernel))
  | ((with_reducible refine' x_isiL (r := true) ?hp ?h ?_); (case hp => walk_at "hk"); (case h => decide +kernel))
  | ((with_reducible refine' x_isiL (r := false) ?hp ?h ?_); (case hp => walk_at "hk"); (case h => decide +kernel))
  | ((with_reducible refine' x_isi2L ?hp ?hl ?_); (case hp => walk_at "hk"); (case hl => walk_at "hk"))
  | ((with_reducible refine' x_isi2T ?hp ?hl ?_); (case hp => walk_at "hk"); (case hl => walk_at "hk"))
  | ((with_reducible refine' x_tupOfL ?hq ?_); (case hq => walk_at "hk"))
  | ((with_reducible refine' x_tupOfT ?hq ?_); (case hq => walk_at "hk"))
  | ((with_reducible refine x_lenS ?h ?_); (case h => exact Nat.le_of_ble_eq_true rfl))
  | ((with_reducible refine' x_all ?hq ?_); (case hq => walk_at "hk"))
  | with_reducible refine x_lenSet ?_)
local macro_rules | `(tactic| walk_at "nb") => `(tactic| first | exact NB.xd | exact NB.dK)
local macro_rules | `(tactic| walk_at "rd1") => `(tactic| first
  | with_reducible refine Er.x_par3 ?_
  | with_reducible refine Er.x_ex_3 ?_
  | with_reducible refine Er.x_revL0 ?_
  | ((with_reducible refine' Er.x_revL ?hq ?_); (case hq => walk_at "hk"))
  | with_reducible refine Er.x_dget2 ?_
  | with_reducible refine x_dict0 ?_
  | ((with_reducible refine x_pow ?hc ?_); (case hc => exact ⟨by decide, by decide, by decide⟩))
  | ((with_reducible refine And.intro ?h ?_); (case h => exact tyL (by walk_at "hk")))
  | ((with_reducible refine' Er.x_dis ?hq ?_); (case hq => walk_at "hk"))
  | ((with_reducible refine' Er.x_dgo ?hq ?he ?_); (case hq => walk_at "hk"); (case he => exact rfl)))
local macro_rules | `(tactic| walk_at "rd1") => `(tactic| first
  | with_reducible refine Er.x_iR2 ?_
  | with_reducible refine Er.x_iEn ?_
  | with_reducible refine Er.x_cont ?_
  | ((with_reducible refine Er.x_isBt ?h ?_); (case h => exact rfl))
  | ((with_reducible refine Er.x_isBf ?h ?_); (case h => exact rfl))
  | ((with_reducible refine Er.x_isNBt ?h ?_); (case h => exact rfl))
  | ((with_reducible refine Er.x_isNBf ?h ?_); (case h => exact rfl))
  | with_reducible refine Er.x_isB ?_
  | with_reducible refine Er.x_isNB ?_)

open Cl
local macro_rules | `(tactic| walk_at "bg") => `(tactic| first | assumption | exact Ex.bag (by assumption) (by walk_at "bg"))
local macro_rules | `(tactic| walk_at "use") => `(tactic| ((with_reducible refine' u_Ltake ?hb ?h0 ?h1 ?_); (case hb => walk_at "bg"); (case h0 => omega); (case h1 => omega); intro _ _ _ _ _))
local macro_rules | `(tactic| walk_at "nb") => `(tactic| first | exact NB.strs | exact NB.bls)
local macro_rules | `(tactic| walk_at "rf") => `(tactic| first | assumption | exact Ow.Refs.drop (by assumption) | exact Ow.Refs.take (by assumption) | exact Ow.Refs.nil | (refine Ow.Refs.cons ?_; walk_at "rf") | (refine Ow.Refs.app ?_ ?_ <;> walk_at "rf") | (refine Ow.Refs.cut ?_; walk_at "rf") | (refine Ow.Refs.rev ?_; walk_at "rf"))
local macro_rules | `(tactic| walk_at "nb") => `(tactic| first | assumption | (refine Ow.Refs.nb ?_; walk_at "rf"))
local macro_rules | `(tactic| walk_at "ln") => `(tactic| exact Nat.le_trans (show _ ≤ 1000 by first | omega | (simp only [Ow.cut_take, Ow.cut_drop, Ow.cut_drop1, Ow.cut_drop_one, Ow.cut_take_one, List.length_append, List.length_take, List.length_drop, List.length_cons, List.length_nil, List.length_reverse]; omega)) (by decide))
local macro_rules | `(tactic| walk_at "rd1") => `(tactic| first
  | ((with_reducible refine' x_cat ?h ?h' ?l ?_); (case h => walk_at "hk"); (case h' => walk_at "hk"); (case l => walk_at "ln"))
  | ((with_reducible refine' x_listOfL ?h ?_); (case h => walk_at "hk")))
local macro_rules | `(tactic| walk_at "sc") => `(tactic| first | assumption | (refine' Scr.mono ?hscr ?escr; (case hscr => assumption); (case escr => walk_at "ex")))
local macro_rules | `(tactic| walk_at "rd1") => `(tactic| first
  | with_reducible refine x_iT ?_
  | with_reducible refine Ow.x_bm0 ?_
  | with_reducible refine x_make ?_
  | with_reducible refine Ow.x_meth ?_
  | with_reducible refine Ow.x_prop ?_
  | with_reducible refine Ow.x_iOwn ?_
  | ((with_reducible refine' x_methS ?h ?l ?_); (case h => walk_at "sc"); (case l => intro _ _; exact rfl))
  | ((with_reducible refine' x_propS ?h ?_); (case h => walk_at "sc"))
  | ((with_reducible refine' u_sfiles ?h ?_); (case h => walk_at "sc"))
  | ((with_reducible refine' u_ssize ?h ?hl ?_); (case h => walk_at "sc"); (case hl => omega); intro _ _)
  | ((with_reducible refine' u_scalls ?h ?_); (case h => walk_at "sc"); intro _ _ _ _ _ _ _)
  | ((with_reducible refine' u_sstraight ?h ?hl ?_); (case h => walk_at "sc"); (case hl => omega); intro _ _)
  | ((with_reducible refine' x_lenS' ?e ?h ?hl ?_); (case e => exact rfl); (case h => walk_at "sc"); (case hl => omega))
  | ((with_reducible refine' x_listS ?e ?h ?_); (case e => exact rfl); (case h => walk_at "sc"); intro _ _ _ _ _ _ _)
  | ((with_reducible refine' x_eqS ?c ?h ?h' ?_); (case c => assumption); (case h => walk_at "sc"); (case h' => walk_at "sc"))
  | ((with_reducible refine' x_neS ?c ?h ?h' ?_); (case c => assumption); (case h => walk_at "sc"); (case h' => walk_at "sc"))
  | ((with_reducible refine' x_eqSL ?c ?h ?h' ?_); (case c => assumption); (case h => walk_at "sc"); (case h' => walk_at "hk"))
  | ((with_reducible refine' x_eqST ?c ?h ?h' ?_); (case c => assumption); (case h => walk_at "sc"); (case h' => walk_at "hk"))
  | ((with_reducible refine' x_eqSI ?c ?h ?_); (case c => assumption); (case h => walk_at "sc")))
section
variable {P : Program} {w : World} {K : PySem.W.Frag} {mg : Str → Option Value} {base : Heap} {a : Ad} {H H1 H2 : Hp} {Q : VK} {E : XK} {p b c t s l : Addr} {xs ys vs : List V} {q : C} {qs us : List C} {o : HO} {n m : Nat} {g g' : Int → Int → Int} {CS CL : Addr}
open Er
/-! a line behind so many rounds -/
def sp_Lbehind (CS CL : Addr) : Sp := fun vs H Q _ => ∃ (s t : Addr) (n m : Nat) (g : Int → Int → Int) (qs : List C) (k : Int), vs = [.ref s, .ref t, .int k] ∧ Lin CL H s n m g ∧ Scr CS H t n qs ∧ (∀ q ∈ qs, q.ok n) ∧ qs.length ≤ 400 ∧ Sz n m ∧ m ≤ 400 ∧ ∀ x H1, Ex H H1 → Lin CL H1 x n m (ledg (sg k qs) n m g) → Q (.ref x) H1
theorem u_Lbehind {k : Int} (h : Lin CL H s n m g) (hs : Scr CS H t n qs) (ho : ∀ q ∈ qs, q.ok n) (hl : qs.length ≤ 400) (hz : Sz n m) (hm : m ≤ 400) (kk : ∀ x H1, Ex H H1 → Lin CL H1 x n m (ledg (sg k qs) n m g) → Q (.ref x) H1) : sp_Lbehind CS CL [.ref s, .ref t, .int k] H Q E := ⟨s, t, n, m, g, qs, k, rfl, h, hs, ho, hl, hz, hm, kk⟩
theorem ok_Lbehind (T : Txt K w mg a) : FnOk P w K mg base CX0 10 a.a_Lbehind a.fd_Lbehind ["_law_line", "_law_some", "_law_rounds"] (sp_Lbehind a.c_Script a.c_Line) := by
  refine T.F_Lbehind.ok sc_Lbehind (fun vs H Q E h => ?_) (fun cdv A outer s H vs Q E hr h => ?_)
  · obtain ⟨s, t, n, m, g, qs, k, rfl, _⟩ := h; rfl
  · obtain ⟨s, t, n, m, g, qs, k, rfl, hL, hs, ho, hl, hz, hm, kk⟩ := h
    have G_Line_copied := ok_Line_copied (P := P) (base := base) T
    have G_Line_go := ok_Line_go (P := P) (base := base) T
    refine ⟨_, (pss_cons (ps_set (i := 3) sc_Lbehind.nd rfl (Or.inl rfl) (pe_meth0 (pv 0) T.t_Line.cl T.Q_Line_copied G_Line_copied (hr.mono (by decide)) T.b_Line_copied .nil pass0))
      (pss_cons (ps_expr (pe_meth (pv 3) T.t_Line.cl T.Q_Line_go G_Line_go (hr.mono (by decide)) T.b_Line_go .nil pass0 (pa_cons (pv 1) (pa_cons (pv 2) pa_nil))))
      (pss_one (ps_ret (pv 3))))), ?_⟩
    walk_at "rd"
    refine x_methL hL (fun _ => rfl) ?_
    walk_at "rd"
    refine ⟨s, n, m, g, rfl, hL, hz, hm, fun x H1 e1 f1 lx => ?_⟩
    walk_at "rd"
    refine x_methL lx (fun _ => rfl) ?_
    walk_at "rd"
    refine ⟨x, t, n, m, g, qs, k, rfl, lx, hs.mono e1, ho, hl, hz, fun H2 x2 l2 => ?_⟩
    walk_at "rd"
    exact kk x H2 (x2.ex e1 (NF.of f1)) l2
/-! a line behind drawn calls -/
theorem Exs.trans (x : Exs s H H1) (y : Exs s H1 H2) : Exs s H H2 := ⟨fun a o n h nb => y.kp a o n (x.kp a o n h nb) nb, fun b c h => y.bg b c (x.bg b c h)⟩
theorem Exs.tx {o : HO} (x : Exs s H H1) (h : H s = some o) (ho : ∀ vs, o ≠ .tup vs) : Tx H H1 := fun p vs hp => x.kp _ _ (fun e => by rw [e, h] at hp; exact ho _ (Option.some.inj hp)) hp NB.tup
def sp_Lbegun (CL : Addr) : Sp := fun vs H Q _ => ∃ (b : Addr) (n m : Nat), vs = [.ref b, .int (n : Int), .int (m : Int)] ∧ Bag b H ∧ Sz n m ∧ m ≤ 400 ∧ ∀ x H1 (us : List C), Ex H H1 → (∀ q : C, q ∈ us → q.ok n) → Lin CL H1 x n m (ledg us n m (num0 n)) → Q (.ref x) H1
theorem u_Lbegun (hb : Bag b H) (hz : Sz n m) (hm : m ≤ 400) (k : ∀ x H1 (us : List C), Ex H H1 → (∀ q : C, q ∈ us → q.ok n) → Lin CL H1 x n m (ledg us n m (num0 n)) → Q (.ref x) H1) : sp_Lbegun CL [.ref b, .int (n : Int), .int (m : Int)] H Q E := ⟨b, n, m, rfl, hb, hz, hm, k⟩
theorem ok_Lbegun (T : Txt K w mg a) : FnOk P w K mg base CX0 6 a.a_Lbegun a.fd_Lbegun ["_law_bag_here", "_law_files", "_law_rows"] (sp_Lbegun a.c_Line) := by
  refine T.F_Lbegun.ok sc_Lbegun (fun vs H Q E h => ?_) (fun cdv A outer s H vs Q E hr h => ?_)
  · obtain ⟨b, n, m, rfl, _⟩ := h; rfl
  · obtain ⟨b, n, m, rfl, hb, hz, hm, k⟩ := h
    have G_Ltake := ok_Ltake (P := P) (base := base) T
    have G_Lcalls := ok_Lcalls (P := P) (base := base) T
    have G_Lall_kinds := ok_Lall_kinds (P := P) (base := base) T
    have G_Line_init := ok_Line_init (P := P) (base := base) T
    have G_Line_do := ok_Line_doC (P := P) (base := base) T
    have hf : (n : Int) = 2 ∨ (n : Int) = 3 := by have := hz.1; omega
    refine ⟨_, (pss_cons (ps_set (i := 3) sc_Lbegun.nd rfl (Or.inl rfl) (pe_make T.M_Line G_Line_init (hr.mono (by decide)) (by rfl) T.m_Line T.b_Line_init .nil pass0 (pa_cons (pv 1) (pa_cons (pv 2) pa_nil))))
      (pss_cons (ps_for PassesOwn.never rfl (pi_list (pe_call G_Lcalls (hr.mono (by decide)) (by rfl) T.m_Lcalls T.k_Lcalls T.b_Lcalls .nil pass0 (pa_cons (pv 0) (pa_cons (pv 1) (pa_cons (pe_call0 G_Lall_kinds (hr.mono (by decide)) (by rfl) T.m_Lall_kinds T.k_Lall_kinds T.b_Lall_kinds .nil pass0) (pa_cons (pe_call G_Ltake (hr.mono (by decide)) (by rfl) T.m_Ltake T.k_Ltake T.b_Ltake .nil pass0 (pa_cons (pv 0) (pa_cons pe_int pa_nil))) pa_nil)))))) (pg_name (i := 4) sc_Lbegun.nd rfl (Or.inl rfl)) (pss_one (ps_expr (pe_meth (pv 3) T.t_Line.cl T.Q_Line_do G_Line_do (hr.mono (by decide)) T.b_Line_do .nil pass0 (pa_cons (pv 4) pa_nil)))))
      (pss_one (ps_ret (pv 3))))), ?_⟩
    walk_at "rd"
    refine u_makeL hz hm fun x H1 e1 f1 lx => ?_
    walk_at "rd"
    refine u_Lall_kinds fun p4 H2 e2 h2 => ?_
    walk_at "rd"
    rename_i d4 H3 e3 d40 d41
    refine u_Lcalls ten (by walk_at "bg") hf (e3.kp _ _ h2 NB.strs) (by decide) (by decide) (fun _ h => h) d40 (by omega) fun c xs qs H4 e4 f4 h4 c4 dr l9 l15 => ?_
    walk_at "rd"
    have lx4 : Lin a.c_Line H4 x n m (num0 n) := lx.mono (e2.trans (e3.trans e4))
    have e14 : Ex H H4 := e1.trans (e2.trans (e3.trans e4))
    obtain ⟨dy, l4, i4, _⟩ := id lx4
    refine for_lst (xs := xs) h4 (fun i σ H' => ∃ v4 : Option V, σ = [some (.ref b), some (.int n), some (.int m), some (.ref x), v4] ∧ Exs x H4 H' ∧ Lin a.c_Line H' x n m (ledg (qs.take i) n m (num0 n))) ⟨_, rfl, ⟨fun _ _ _ h _ => h, fun _ _ h => h⟩, lx4⟩ (fun i σ H' _ h => ?_) (fun i y σ H' hy h => ?_) (fun σ H' h => ?_)
    · obtain ⟨_, _, x5, _⟩ := h
      exact x5.kp _ _ (fun e => by rw [e, i4] at h4; cases h4) h4 c4.nb
    · obtain ⟨v4, rfl, x5, l5⟩ := h
      obtain ⟨p, q, rfl, hq, hp⟩ := c4.get hy
      have hp5 := x5.tx i4 (fun _ e => by cases e) _ _ hp
      walk_at "rd"
      refine x_methL l5 (fun _ => rfl) ?_
      walk_at "rd"
      refine ⟨x, p, n, m, _, q, rfl, l5, hp5, (dr q (List.mem_of_getElem? hq)).1, hz, fun H6 x6 l6 => ?_⟩
      walk_at "rd"
      refine ⟨_, rfl, x5.trans x6, ?_⟩
      rw [List.take_add_one, hq, ledg_app]
      exact l6
    · obtain ⟨v4, rfl, x5, l5⟩ := h
      rw [List.take_of_length_le (by rw [c4.len]; exact Nat.le_refl _)] at l5
      walk_at "rd"
      exact k x H' qs (x5.ex e14 (NF.of f1)) (fun q hq => (dr q hq).1) l5
end
end My

set_option Elab.async false
set_option linter.all false
set_option maxRecDepth 100000
set_option maxHeartbeats 8000000
namespace My
open PySem PySem.Spec PyProof.Rows L2 Sx
local macro_rules | `(tactic| walk_at "nb") => `(tactic| first | exact NB.tup | exact NB.ints | exact NB.len (of_decide_eq_true rfl) | exact NB.at0b rfl | exact NB.at3b rfl | exact NB.ins | exact NB.own | exact NB.frz | exact NB.refs (by assumption) | assumption)
local macro_rules | `(tactic| walk_at "ne") => `(tactic| first | assumption | exact Ne.symm (by assumption) | exact ne_of_none (by assumption) (by assumption) | exact Ne.symm (ne_of_none (by assumption) (by assumption)))
local macro_rules | `(tactic| walk_at "hk") => `(tactic| first
  | assumption
  | exact upd_same
  | (refine' (upd_ne ?hkne).trans ?hkq; (case hkne => walk_at "ne"); (case hkq => walk_at "hk"))
  | (refine' Ex.kp (by assumption) _ _ ?hkq ?hkn; (case hkq => walk_at "hk"); (case hkn => walk_at "nb")))
local macro_rules | `(tactic| walk_at "rd1") => `(tactic| first
  | ((with_reducible refine' x_var ?hx ?_); (case hx => exact rfl))
  | with_reducible refine x_c ?_
  | with_reducible refine x_op ?_
  | with_reducible refine x_un ?_
  | with_reducible refine x_I0 ?_
  | with_reducible refine x_U ?_
  | ((with_reducible refine x_I ?hc ?_); (case hc => first | exact (by decide : (0 : Int) < _) | (show (0 : Int) < _; omega) | (show CMul _ _; first | exact .inl ⟨by omega, by omega⟩ | exact .inr ⟨by omega, by omega⟩) | (show CDiv _ _; exact ⟨by omega, by omega⟩) | (show CDivW _ _; exact wide_div (b := 200) (by omega) (by assumption) (by decide) (by decide)) | (show CDivW _ _; exact wide_div (b := 31) (by omega) (by omega) (by decide) (by decide))))
  | with_reducible refine x_EqI ?_
  | with_reducible refine x_NeI ?_
  | ((with_reducible refine x_EqSt ?h ?_); (case h => decide +kernel))
  | ((with_reducible refine x_EqSf ?h ?_); (case h => decide +kernel))
  | ((with_reducible refine x_NeSt ?h ?_); (case h => decide +kernel))
  | ((with_reducible refine x_NeSf ?h ?_); (case h => decide +kernel))
  | with_reducible refine x_EqS ?_
  | with_reducible refine x_NeS ?_
  | ((with_reducible refine' x_ixL ?hq ?hi ?_); (case hq => walk_at "hk"); (case hi => first | exact rfl | assumption))
  | ((with_reducible refine' x_ixT ?hq ?hi ?_); (case hq => walk_at "hk"); (case hi => first | exact rfl | assumption))
  | with_reducible refine x_chain ?_
  | with_reducible refine x_tup ?_
  | with_reducible refine x_lst ?_
  | ((with_reducible refine x_lenNew ?hl ?_); (case hl => exact Nat.le_of_ble_eq_true rfl); intro _ _ _ _ _)
  | ((with_reducible refine x_new ?_); intro _ _ _ _ _)
  | with_reducible refine x_sl ?_
  | with_reducible refine x_noPart ?_
  | with_reducible refine x_part ?_
  | with_reducible refine x_ex_int ?_
  | with_reducible refine x_ex_bl ?_
  | with_reducible refine x_ex_2 ?_
  | with_reducible refine x_test ?_
  | with_reducible refine x_B ?_
  | with_reducible refine x_and ?_
  | with_reducible refine x_or ?_
  | with_reducible refine x_not ?_
  | with_reducible refine x_andV ?_
  | with_reducible refine x_orV ?_
  | with_reducible refine x_notV ?_
  | with_reducible refine x_ifE ?_
  | with_reducible refine x_iteT ?_
  | with_reducible refine x_iteF ?_
  | ((with_reducible refine x_iteD ?_ ?_) <;> intro _)
  | ((with_reducible refine x_iteN ?_ ?_) <;> intro _)
  | with_reducible refine x_if ?_
  | with_reducible refine x_seq ?_
  | with_reducible refine x_next ?_
  | with_reducible refine x_asg ?_
  | with_reducible refine x_gName ?_
  | ((with_reducible refine' x_gTup ?hq ?hn ?_); (case hq => walk_at "hk"); (case hn => exact rfl))
  | with_reducible refine x_gCons ?_
  | with_reducible refine x_gNil ?_
  | ((with_reducible refine' x_gConsE ?h ?_); (case h => exact rfl))
  | ((with_reducible refine x_gNilE ?h ?_); (case h => exact rfl))
  | with_reducible refine x_ret ?_
  | with_reducible refine x_drop ?_
  | with_reducible refine x_par ?_
  | ((with_reducible refine' x_aug ?hx ?_); (case hx => exact rfl))
  | with_reducible refine x_ipI ?_
  | with_reducible refine x_augS ?_
  | with_reducible refine x_gSub ?_
  | ((with_reducible refine' x_setL ?hq ?hi ?_); (case hq => walk_at "hk"); (case hi => first | exact rfl | assumption))
  | with_reducible refine x_cons ?_
  | with_reducible refine x_nil ?_
  | with_reducible refine x_CB ?_
  | with_reducible refine x_abs ?_
  | with_reducible refine x_intI ?_
  | with_reducible refine x_intB ?_
  | ((with_reducible refine' x_lenL ?hq ?_); (case hq => walk_at "hk"))
  | ((with_reducible refine' x_lenT ?hq ?_); (case hq => walk_at "hk"))
  | ((with_reducible refine x_iteTe ?h ?_); (case h => exact rfl))
  | ((with_reducible refine x_iteFe ?h ?_); (case h => exact rfl))
  | walk_at "use"
  | with_reducible refine x_callS ?_
  | ((with_reducible refine x_lc ?_))
  | ((with_reducible refine x_for ?_))
  | ((with_reducible refine x_iR1 ?_))
  | ((with_reducible refine x_iL ?_))
  | ((with_reducible refine x_iZ ?_))
  | ((with_reducible refine x_yes ?_))
  | ((with_reducible refine' x_NIDt ?hq ?_); (case hq => assumption))
  | ((with_reducible refine' x_NIDf ?hq ?_); (case hq => assumption))
  | ((with_reducible refine' x_IIDf ?hq ?_); (case hq => assumption))
  | ((with_reducible refine' x_IIDt ?hq ?_); (case hq => assumption))
  | ((with_reducible refine' x_ixDs ?hd ?hq ?_); (case hd => assumption); (case hq => assumption))
  | ((with_reducible refine x_InSt ?h ?_); (case h => decide +kernel))
  | ((with_reducible refine x_InSf ?h ?_); (case h => decide +kernel))
  | ((with_reducible refine' x_notInI ?hq ?_); (case hq => walk_at "hk"))
  | ((with_reducible refine' x_inTt ?hq ?hv ?ha ?he ?_); (case hq => walk_at "hk"); (case hv => exact rfl); (case ha => exact rfl); (case he => decide +kernel))
  | ((with_reducible refine' x_inTf ?hq ?hv ?ha ?he ?_); (case hq => walk_at "hk"); (case hv => exact rfl); (case ha => exact rfl); (case he => decide +kernel))
  | ((with_reducible refine' x_slT ?hq ?hw ?_); (case hq => walk_at "hk"); (case hw => with_unfolding_all exact of_decide_eq_true rfl))
  | ((with_reducible refine' x_slL ?hq ?_); (case hq => walk_at "hk"))
  | ((with_reducible refine' x_catT ?hq ?hr ?n1 ?n2 ?hl ?_); (case hq => walk_at "hk"); (case hr => walk_at "hk"); (case n1 => exact List.cons_ne_nil _ _); (case n2 => exact List.cons_ne_nil _ _); (case hl => exact Nat.le_of_ble_eq_true rfl))
  | ((with_reducible refine x_bm ?_))
  | ((with_reducible refine x_lstRg ?_))
  | ((with_reducible refine x_rg1 ?_))
  | ((with_reducible refine And.intro ?h ?_); (case h => exact tyL (by assumption)))
  | dsimp only)
local macro_rules | `(tactic| walk_at "use") => `(tactic| fail)
local macro_rules | `(tactic| walk_at "rd") => `(tactic| repeat' (walk_at "rd1"))
local macro_rules | `(tactic| walk_at "ex") => `(tactic| first | exact Ex.refl _ | assumption | (refine' Ex.trans ?he (by assumption); (case he => walk_at "ex")))
local macro_rules | `(tactic| walk_at "rd1") => `(tactic| first
  | ((with_reducible refine x_iteDf ?h ?_); (case h => exact rfl))
  | ((with_reducible refine x_iteDt ?h ?_); (case h => exact rfl))
  | ((with_reducible refine x_iteNf ?h ?_); (case h => exact rfl))
  | ((with_reducible refine x_iteNt ?h ?_); (case h => exact rfl))
  | ((with_reducible refine x_isiI (r := true) ?h ?_); (case h => decide +kernel))
  | ((with_reducible refine x_isiI (r := false) ?h ?_); (case h => decide +kernel))
  | ((with_reducible refine x_isiS (r := true) ?h ?_); (case h => decide +kernel))
  | ((with_reducible refine x_isiS (r := false) ?h ?_); (case h => decide +kernel))
  | ((with_reducible refine x_isiB (r := true) ?h ?_); (case h => decide +kernel))
  | ((with_reducible refine x_isiB (r := false) ?h ?_); (case h => decide +kernel))
  | ((with_reducible refine' x_isiT (r := true) ?hp ?h ?_); (case hp => walk_at "hk"); (case h => decide +kernel))
  | ((with_reducible refine' x_isiT (r := false) ?hp ?h ?_); (case hp => walk_at "hk"); (case h => decide +kernel))
  | ((with_reducible refine' x_isiL (r := true) ?hp ?h ?_); (case hp => walk_at "hk"); (case h => decide +kernel))
  | ((with_reducible refine' x_isiL (r := false) ?hp ?h ?_); (case hp => walk_at "hk"); (case h => decide +kernel))
  | ((with_reducible refine' x_isi2L ?hp ?hl ?_); (case hp => walk_at "hk"); (case hl => walk_at "hk"))
  | ((with_reducible refine' x_isi2T ?hp ?hl ?_); (case hp => walk_at "hk"); (case hl => walk_at "hk"))
  | ((with_reducible refine' x_tupOfL ?hq ?_); (case hq => walk_at "hk"))
  | ((with_reducible refine' x_tupOfT ?hq ?_); (case hq => walk_at "hk"))
  | ((with_reducible refine x_lenS ?h ?_); (case h => exact Nat.le_of_ble_eq_true rfl))
  | ((with_reducible refine' x_all ?hq ?_); (case hq => walk_at "hk"))
  | with_reducible refine x_lenSet ?_)
local macro_rules | `(tactic| walk_at "nb") => `(tactic| first | exact NB.xd | exact NB.dK)
local macro_rules | `(tactic| walk_at "rd1") => `(tactic| first
  | with_reducible refine Er.x_par3 ?_
  | with_reducible refine Er.x_ex_3 ?_
  | with_reducible refine Er.x_revL0 ?_
  | ((with_reducible refine' Er.x_revL ?hq ?_); (case hq => walk_at "hk"))
  | with_reducible refine Er.x_dget2 ?_
  | with_reducible refine x_dict0 ?_
  | ((with_reducible refine x_pow ?hc ?_); (case hc => exact ⟨by decide, by decide, by decide⟩))
  | ((with_reducible refine And.intro ?h ?_); (case h => exact tyL (by walk_at "hk")))
  | ((with_reducible refine' Er.x_dis ?hq ?_); (case hq => walk_at "hk"))
  | ((with_reducible refine' Er.x_dgo ?hq ?he ?_); (case hq => walk_at "hk"); (case he => exact rfl)))
local macro_rules | `(tactic| walk_at "rd1") => `(tactic| first
  | with_reducible refine Er.x_iR2 ?_
  | with_reducible refine Er.x_iEn ?_
  | with_reducible refine Er.x_cont ?_
  | ((with_reducible refine Er.x_isBt ?h ?_); (case h => exact rfl))
  | ((with_reducible refine Er.x_isBf ?h ?_); (case h => exact rfl))
  | ((with_reducible refine Er.x_isNBt ?h ?_); (case h => exact rfl))
  | ((with_reducible refine Er.x_isNBf ?h ?_); (case h => exact rfl))
  | with_reducible refine Er.x_isB ?_
  | with_reducible refine Er.x_isNB ?_)

open Cl
local macro_rules | `(tactic| walk_at "bg") => `(tactic| first | assumption | exact Ex.bag (by assumption) (by walk_at "bg"))
local macro_rules | `(tactic| walk_at "use") => `(tactic| ((with_reducible refine' u_Ltake ?hb ?h0 ?h1 ?_); (case hb => walk_at "bg"); (case h0 => omega); (case h1 => omega); intro _ _ _ _ _))
local macro_rules | `(tactic| walk_at "nb") => `(tactic| first | exact NB.strs | exact NB.bls)
local macro_rules | `(tactic| walk_at "rf") => `(tactic| first | assumption | exact Ow.Refs.drop (by assumption) | exact Ow.Refs.take (by assumption) | exact Ow.Refs.nil | (refine Ow.Refs.cons ?_; walk_at "rf") | (refine Ow.Refs.app ?_ ?_ <;> walk_at "rf") | (refine Ow.Refs.cut ?_; walk_at "rf") | (refine Ow.Refs.rev ?_; walk_at "rf"))
local macro_rules | `(tactic| walk_at "nb") => `(tactic| first | assumption | (refine Ow.Refs.nb ?_; walk_at "rf"))
local macro_rules | `(tactic| walk_at "ln") => `(tactic| exact Nat.le_trans (show _ ≤ 1000 by first | omega | (simp only [Ow.cut_take, Ow.cut_drop, Ow.cut_drop1, Ow.cut_drop_one, Ow.cut_take_one, List.length_append, List.length_take, List.length_drop, List.length_cons, List.length_nil, List.length_reverse]; omega)) (by decide))
local macro_rules | `(tactic| walk_at "rd1") => `(tactic| first
  | ((with_reducible refine' x_cat ?h ?h' ?l ?_); (case h => walk_at "hk"); (case h' => walk_at "hk"); (case l => walk_at "ln"))
  | ((with_reducible refine' x_listOfL ?h ?_); (case h => walk_at "hk")))
local macro_rules | `(tactic| walk_at "sc") => `(tactic| first | assumption | (refine' Scr.mono ?hscr ?escr; (case hscr => assumption); (case escr => walk_at "ex")))
local macro_rules | `(tactic| walk_at "rd1") => `(tactic| first
  | with_reducible refine x_iT ?_
  | with_reducible refine Ow.x_bm0 ?_
  | with_reducible refine x_make ?_
  | with_reducible refine Ow.x_meth ?_
  | with_reducible refine Ow.x_prop ?_
  | with_reducible refine Ow.x_iOwn ?_
  | ((with_reducible refine' x_methS ?h ?l ?_); (case h => walk_at "sc"); (case l => intro _ _; exact rfl))
  | ((with_reducible refine' x_propS ?h ?_); (case h => walk_at "sc"))
  | ((with_reducible refine' u_sfiles ?h ?_); (case h => walk_at "sc"))
  | ((with_reducible refine' u_ssize ?h ?hl ?_); (case h => walk_at "sc"); (case hl => omega); intro _ _)
  | ((with_reducible refine' u_scalls ?h ?_); (case h => walk_at "sc"); intro _ _ _ _ _ _ _)
  | ((with_reducible refine' u_sstraight ?h ?hl ?_); (case h => walk_at "sc"); (case hl => omega); intro _ _)
  | ((with_reducible refine' x_lenS' ?e ?h ?hl ?_); (case e => exact rfl); (case h => walk_at "sc"); (case hl => omega))
  | ((with_reducible refine' x_listS ?e ?h ?_); (case e => exact rfl); (case h => walk_at "sc"); intro _ _ _ _ _ _ _)
  | ((with_reducible refine' x_eqS ?c ?h ?h' ?_); (case c => assumption); (case h => walk_at "sc"); (case h' => walk_at "sc"))
  | ((with_reducible refine' x_neS ?c ?h ?h' ?_); (case c => assumption); (case h => walk_at "sc"); (case h' => walk_at "sc"))
  | ((with_reducible refine' x_eqSL ?c ?h ?h' ?_); (case c => assumption); (case h => walk_at "sc"); (case h' => walk_at "hk"))
  | ((with_reducible refine' x_eqST ?c ?h ?h' ?_); (case c => assumption); (case h => walk_at "sc"); (case h' => walk_at "hk"))
  | ((with_reducible refine' x_eqSI ?c ?h ?_); (case c => assumption); (case h => walk_at "sc")))
section
variable {P : Program} {w : World} {K : PySem.W.Frag} {mg : Str → Option Value} {base : Heap} {a : Ad} {H H1 H2 : Hp} {Q : VK} {E : XK} {p b c t s l : Addr} {xs ys vs : List V} {q : C} {qs us : List C} {o : HO} {n m : Nat} {g g' : Int → Int → Int} {CS CL : Addr} {files : Int}
open Er
/-! places and numbers -/
def sp_number_of : Sp := fun vs H Q _ => ∃ (files r f : Int) (p : Addr), vs = [.int files, .ref p] ∧ H p = some (.tup [.int r, .int f]) ∧ 0 ≤ files ∧ files ≤ 1000 ∧ Q (.int (r * files + f)) H
theorem u_number_of {r f : Int} (h : H p = some (.tup [.int r, .int f])) (h0 : 0 ≤ files) (h1 : files ≤ 1000) (k : Q (.int (r * files + f)) H) : sp_number_of [.int files, .ref p] H Q E := ⟨files, r, f, p, rfl, h, h0, h1, k⟩
theorem ok_number_of (T : Txt K w mg a) : FnOk P w K mg base CX0 1 a.a_number_of a.fd_number_of ["files", "place"] sp_number_of := by
  refine T.F_number_of.ok sc_number_of (fun vs H Q E h => ?_) (fun cdv A outer s H vs Q E hr h => ?_)
  · obtain ⟨f, r, v, p, rfl, _⟩ := h; rfl
  · obtain ⟨files, r, f, p, rfl, hp, h0, h1, k⟩ := h
    refine ⟨_, (pss_cons (ps_asg (pv 1) (pg_tup rfl (pgs_cons (pg_name (i := 2) sc_number_of.nd rfl (Or.inl rfl)) (pgs_cons (pg_name (i := 3) sc_number_of.nd rfl (Or.inl rfl)) pgs_nil))))
      (pss_one (ps_ret (pe_op op_add (pe_op op_mul (pv 2) (pv 0)) (pv 3))))), ?_⟩
    walk_at "rd"
    exact k
def sp_place_of : Sp := fun vs H Q _ => ∃ files n : Int, vs = [.int files, .int n] ∧ 0 < files ∧ files ≤ 1000 ∧ ∀ p H1, Ex H H1 → H1 p = some (.tup [.int (n / files), .int (n % files)]) → Q (.ref p) H1
theorem u_place_of {n : Int} (h0 : 0 < files) (h1 : files ≤ 1000) (k : ∀ p H1, Ex H H1 → H1 p = some (.tup [.int (n / files), .int (n % files)]) → Q (.ref p) H1) : sp_place_of [.int files, .int n] H Q E := ⟨files, n, rfl, h0, h1, k⟩
theorem ok_place_of (T : Txt K w mg a) : FnOk P w K mg base CX0 1 a.a_place_of a.fd_place_of ["files", "number"] sp_place_of := by
  refine T.F_place_of.ok sc_place_of (fun vs H Q E h => ?_) (fun cdv A outer s H vs Q E hr h => ?_)
  · obtain ⟨f, r, rfl, _⟩ := h; rfl
  · obtain ⟨files, n, rfl, h0, h1, k⟩ := h
    refine ⟨_, (pss_one (ps_ret (pe_tup (pa_cons (pe_op op_fdivW (pv 1) (pv 0)) (pa_cons (pe_op op_mod (pv 1) (pv 0)) pa_nil))))), ?_⟩
    walk_at "rd"
    rename_i p1 H1 e1 f1 h1'
    exact k _ _ e1 h1'
/-! where two scripts lead -/
/-- two equal lists of ints -/
theorem ne_ints {ns : List Int} {p1 p2 : Addr} (h1 : H p1 = some (.lst (ns.map V.int))) (h2 : H p2 = some (.lst (ns.map V.int))) (k : Q (.bl false) H) : rNeD K (.ref p1) (.ref p2) H Q :=
  x_NeD (.lst (SqL.of h1) dp_ints) (.lst (SqL.of h2) dp_ints) (shaped_ints _) (shaped_ints _) (by rw [eqv_ints]; exact k)
def sp_Lplaces_right (CS : Addr) : Sp := fun vs H Q _ => ∃ (b s t : Addr) (n m : Nat) (qs us : List C), vs = [.ref b, .ref s, .ref t, .int (n : Int), .int (m : Int)] ∧ Bag b H ∧ Scr CS H s n qs ∧ Scr CS H t n us ∧ (∀ q ∈ qs, q.ok n) ∧ (∀ q ∈ us, q.ok n) ∧ qs.length ≤ 100 ∧ us.length ≤ 100 ∧ Sz n m ∧ m ≤ 400 ∧ ∀ H1, Ex H H1 → Q (.bl true) H1
theorem u_Lplaces_right (hb : Bag b H) (hs : Scr CS H s n qs) (ht : Scr CS H t n us) (o1 : ∀ q ∈ qs, q.ok n) (o2 : ∀ q ∈ us, q.ok n) (l1 : qs.length ≤ 100) (l2 : us.length ≤ 100) (hz : Sz n m) (hm : m ≤ 400) (k : ∀ H1, Ex H H1 → Q (.bl true) H1) : sp_Lplaces_right CS [.ref b, .ref s, .ref t, .int (n : Int), .int (m : Int)] H Q E := ⟨b, s, t, n, m, qs, us, rfl, hb, hs, ht, o1, o2, l1, l2, hz, hm, k⟩
theorem ok_Lplaces_right (T : Txt K w mg a) : FnOk P w K mg base CX0 9 a.a_Lplaces_right a.fd_Lplaces_right ["_law_bag_here", "_law_one_here", "_law_other", "_law_files", "_law_rows"] (sp_Lplaces_right a.c_Script) := by
  refine T.F_Lplaces_right.ok sc_Lplaces_right (fun vs H Q E h => ?_) (fun cdv A outer s H vs Q E hr h => ?_)
  · obtain ⟨b, s, t, n, m, qs, us, rfl, _⟩ := h; rfl
  · obtain ⟨b, s, t, n, m, qs, us, rfl, hb, hs, ht, o1, o2, l1, l2, hz, hm, k⟩ := h
    have G_Ltake := ok_Ltake (P := P) (base := base) T
    have G_Script_mul := ok_Script_mul (P := P) (base := base) T
    have G_moves_of := ok_moves_of (P := P) (base := base) T
    have G_moved := ok_moved (P := P) (base := base) T
    have G_number_of := ok_number_of (P := P) (base := base) T
    have G_place_of := ok_place_of (P := P) (base := base) T
    have n0 := hz.n0
    have hnm : n * m ≤ 1200 := by rcases hz.1 with rfl | rfl <;> omega
    have oa : ∀ q ∈ qs ++ us, q.ok n := fun q hq => (List.mem_append.mp hq).elim (o1 q) (o2 q)
    have la : (qs ++ us).length ≤ 400 := by simp; omega
    refine ⟨_, (pss_cons (ps_asg (pe_tup (pa_cons (pe_call G_moves_of (hr.mono (by decide)) (by rfl) T.m_moves_of T.k_moves_of T.b_moves_of .nil pass0 (pa_cons (pe_op (Ow.op_mulOwn G_Script_mul T.Y_Script T.Q_Script_mul.at_ T.Q_Script_mul.fn T.b_Script_mul pass0 (hr.mono (by decide))) (pv 1) (pv 2)) (pa_cons (pv 4) pa_nil))) (pa_cons (pe_lst (pa_cons (pe_call G_moves_of (hr.mono (by decide)) (by rfl) T.m_moves_of T.k_moves_of T.b_moves_of .nil pass0 (pa_cons (pv 1) (pa_cons (pv 4) pa_nil))) (pa_cons (pe_call G_moves_of (hr.mono (by decide)) (by rfl) T.m_moves_of T.k_moves_of T.b_moves_of .nil pass0 (pa_cons (pv 2) (pa_cons (pv 4) pa_nil))) pa_nil))) pa_nil))) (pg_tup rfl (pgs_cons (pg_name (i := 5) sc_Lplaces_right.nd rfl (Or.inl rfl)) (pgs_cons (pg_name (i := 6) sc_Lplaces_right.nd rfl (Or.inr rfl)) pgs_nil))))
      (pss_cons (ps_if (pt_cmpR (op_neD hr.units) (pv 5) (pe_lc (own := [("_law_goal", 8)]) rfl sc_Lplaces_right.nd (pi_list (pe_ix ix_list (pv 6) pe_int (fun _ _ => rfl))) (blkOk_by (own := [("_law_goal", 8)]) (N := ["_law_bag_here", "_law_one_here", "_law_other", "_law_files", "_law_rows", "_law_found", "_law_goals", "_law_place", "_law_goal"]) (sc := defScope s_Lplaces_right) (by decide +kernel)) (fun _ _ _ _ _ => (pg_name (i := 8) sc_Lplaces_right.nd rfl (Or.inl rfl) (Or.inr rfl))) (fun _ _ _ _ _ => pts_nil) (fun _ _ _ _ _ => (pe_ix Ow.ix_listB (pe_ix Ow.ix_listB (pv 6) pe_int (fun _ _ => rfl)) (pv 8) (fun _ _ => rfl)))) (nomark _)) (pss_one (ps_ret pe_bl)) pss_nil)
      (pss_cons (ps_set (i := 7) sc_Lplaces_right.nd rfl (Or.inl rfl) (pe_call G_place_of (hr.mono (by decide)) (by rfl) T.m_place_of T.k_place_of T.b_place_of .nil pass0 (pa_cons (pv 3) (pa_cons (pe_call G_Ltake (hr.mono (by decide)) (by rfl) T.m_Ltake T.k_Ltake T.b_Ltake .nil pass0 (pa_cons (pv 0) (pa_cons (pe_op op_mul (pv 3) (pv 4)) pa_nil))) pa_nil))))
      (pss_one (ps_ret (pe_cmpR op_eq (pe_call G_number_of (hr.mono (by decide)) (by rfl) T.m_number_of T.k_number_of T.b_number_of .nil pass0 (pa_cons (pv 3) (pa_cons (pe_call G_moved (hr.mono (by decide)) (by rfl) T.m_moved T.k_moved T.b_moved .nil pass0 (pa_cons (pe_op (Ow.op_mulOwn G_Script_mul T.Y_Script T.Q_Script_mul.at_ T.Q_Script_mul.fn T.b_Script_mul pass0 (hr.mono (by decide))) (pv 1) (pv 2)) (pa_cons (pv 4) (pa_cons (pv 7) pa_nil)))) pa_nil))) (pe_ix ix_list (pv 5) (pe_call G_number_of (hr.mono (by decide)) (by rfl) T.m_number_of T.k_number_of T.b_number_of .nil pass0 (pa_cons (pv 3) (pa_cons (pv 7) pa_nil))) (fun _ _ => rfl)) (nomark _))))))), ?_⟩
    walk_at "rd"
    refine x_mulS hs ht (fun q hq => (o1 q hq).good) (fun q hq => (o2 q hq).good) hz.two.1 hz.two.2 (by omega) (by omega) fun p1 H1 e1 s1 => ?_
    walk_at "rd"
    refine u_moves_of s1 oa la hz fun t1 H2 e2 _ g1 => ?_
    rw [moves_goals n0 oa] at g1
    walk_at "rd"
    refine u_moves_of (hs.mono (e1.trans e2)) o1 (by omega) hz fun t2 H3 e3 _ g2 => ?_
    rw [moves_goals n0 o1] at g2
    walk_at "rd"
    refine u_moves_of (ht.mono ((e1.trans e2).trans e3)) o2 (by omega) hz fun t3 H4 e4 _ g3 => ?_
    rw [moves_goals n0 o2] at g3
    walk_at "rd"
    rename_i pl H50 e50 f50 h50 tp H5 e51 f51 h51
    have nbp : NB (.lst [.ref t2, .ref t3]) := (Ow.Refs.cons (Ow.Refs.cons Ow.Refs.nil)).nb
    have e5 := e50.trans e51
    have h5 := e51.kp _ _ h50 nbp
    have e45 := e4.trans e5
    have e25 := e3.trans e45
    have g1' := e25.kp _ _ g1 NB.ints
    have g2' := e45.kp _ _ g2 NB.ints
    have g3' := e5.kp _ _ g3 NB.ints
    refine lc_lst g2' NB.ints (fun i acc _ => acc = ((goalsL n m (qs ++ us)).take i).map V.int ∧ i ≤ n * m) ⟨rfl, Nat.zero_le _⟩ (fun _ _ _ _ _ h => h) (fun i acc _ h => ?_) (fun x => rfl) (fun i y acc H' hy e hI kk k1 k2 => ?_) (fun p2 ys H6 e6 f6 h6 hI => ?_)
    · obtain ⟨rfl, hi⟩ := h
      exact ⟨NB.ints, Nat.lt_of_le_of_lt (show _ ≤ 300000 by rw [List.length_map, List.length_take, goals_len]; omega) (by decide)⟩
    · obtain ⟨rfl, hi⟩ := hI
      have hi' := (List.getElem?_eq_some_iff.mp hy).1
      rw [List.length_map, goals_len] at hi'
      obtain ⟨j, j1, j2, _⟩ := goal_at (m := m) n0 o1 hi'
      rw [List.getElem?_map, j1] at hy
      have ey : V.int (j : Int) = y := Option.some.inj hy
      subst ey
      have ga := goals_app n0 o1 o2 hi' j1
      obtain ⟨z, hz'⟩ : ∃ z, (goalsL n m (qs ++ us))[i]? = some z := ⟨_, List.getElem?_eq_getElem (by rw [goals_len]; exact hi')⟩
      rw [hz'] at ga
      have at2 : atI ((goalsL n m us).map V.int) (j : Int) = some (.int z) := at_nat (by omega) (by rw [Int.toNat_natCast, List.getElem?_map, ga.2]; rfl)
      have h3x := e.kp _ _ g3' NB.ints
      have hpx := e.kp _ _ h5 nbp
      walk_at "rd"
      refine k1 _ _ (Ex.refl _) ⟨?_, hi'⟩
      rw [List.take_add_one, hz', List.map_append]
      rfl
    obtain ⟨rfl, _⟩ := hI
    rw [List.length_map, goals_len, List.take_of_length_le (by rw [goals_len]; exact Nat.le_refl _)] at h6
    have g16 := e6.kp _ _ g1' NB.ints
    walk_at "rd"
    refine ne_ints g16 h6 ?_
    have hb6 : Bag b H6 := by walk_at "bg"
    have e16 : Ex H1 H6 := (e2.trans e25).trans e6
    have s6 : Scr a.c_Script H6 s n qs := hs.mono (e1.trans e16)
    have t6 : Scr a.c_Script H6 t n us := ht.mono (e1.trans e16)
    have eA : Ex H H6 := e1.trans e16
    clear e16 e25 e45 e5 e50 e51 e6 e4 e3 e2 e1 h5 h50 h51 h6 g1 g2 g3 g1' g2' g3' hb hs ht s1
    have q1 : 0 < (n : Int) * m := by rw [← Int.natCast_mul]; have := Nat.mul_pos n0 hz.2.1; omega
    have q2 : (n : Int) * m ≤ 1200 := by rw [← Int.natCast_mul]; omega
    walk_at "rd"
    rename_i d H7 e7 d0 d1
    refine u_place_of (by omega) (by have := hz.1; omega) fun pp H8 e8 h8 => ?_
    have e78 := e7.trans e8
    walk_at "rd"
    refine x_mulS (s6.mono e78) (t6.mono e78) (fun q hq => (o1 q hq).good) (fun q hq => (o2 q hq).good) hz.two.1 hz.two.2 (by omega) (by omega) fun p9 H9 e9 s9 => ?_
    obtain ⟨i, rfl⟩ : ∃ i : Nat, d = (i : Int) := ⟨d.toNat, by omega⟩
    have hi : i < n * m := by rw [← Int.natCast_mul] at d1; omega
    walk_at "rd"
    refine u_moved s9 oa (by omega) (e9.kp _ _ h8 NB.tup) (by have := hz.1; omega) (Nat.lt_of_lt_of_le (show _ < 131072 by omega) (by decide)) (on_at n0 hi) fun pr H10 e10 h10 => ?_
    obtain ⟨j, j1, j2, j3⟩ := goal_at (m := m) n0 oa hi
    rw [← j3] at h10
    walk_at "rd"
    refine u_number_of h10 (by omega) (by have := hz.1; omega) ?_
    walk_at "rd"
    refine u_number_of ((e9.trans e10).kp _ _ h8 NB.tup) (by omega) (by have := hz.1; omega) ?_
    rw [show (i : Int) / n * n + (i : Int) % n = i from Int.ediv_mul_add_emod _ _]
    rw [show (j : Int) / n * n + (j : Int) % n = j from Int.ediv_mul_add_emod _ _]
    have gx := (e78.trans (e9.trans e10)).kp _ _ g16 NB.ints
    refine x_ixL gx (at_nat (by omega) (by rw [Int.toNat_natCast, List.getElem?_map, j1]; rfl)) ?_
    walk_at "rd"
    rw [decide_eq_true rfl]
    exact k _ (eA.trans (e78.trans (e9.trans e10)))
end
end My

set_option Elab.async false
set_option linter.all false
set_option maxRecDepth 100000
set_option maxHeartbeats 8000000
namespace My
open PySem PySem.Spec PyProof.Rows L2 Sx
local macro_rules | `(tactic| walk_at "nb") => `(tactic| first | exact NB.tup | exact NB.ints | exact NB.len (of_decide_eq_true rfl) | exact NB.at0b rfl | exact NB.at3b rfl | exact NB.ins | exact NB.own | exact NB.frz | exact NB.refs (by assumption) | assumption)
local macro_rules | `(tactic| walk_at "ne") => `(tactic| first | assumption | exact Ne.symm (by assumption) | exact ne_of_none (by assumption) (by assumption) | exact Ne.symm (ne_of_none (by assumption) (by assumption)))
local macro_rules | `(tactic| walk_at "hk") => `(tactic| first
  | assumption
  | exact upd_same
  | (refine' (upd_ne ?hkne).trans ?hkq; (case hkne => walk_at "ne"); (case hkq => walk_at "hk"))
  | (refine' Ex.kp (by assumption) _ _ ?hkq ?hkn; (case hkq => walk_at "hk"); (case hkn => walk_at "nb")))
local macro_rules | `(tactic| walk_at "rd1") => `(tactic| first
  | ((with_reducible refine' x_var ?hx ?_); (case hx => exact rfl))
  | with_reducible refine x_c ?_
  | with_reducible refine x_op ?_
  | with_reducible refine x_un ?_
  | with_reducible refine x_I0 ?_
  | with_reducible refine x_U ?_
  | ((with_reducible refine x_I ?hc ?_); (case hc => first | exact (by decide : (0 : Int) < _) | (show (0 : Int) < _; omega) | (show CMul _ _; first | exact .inl ⟨by omega, by omega⟩ | exact .inr ⟨by omega, by omega⟩) | (show CDiv _ _; exact ⟨by omega, by omega⟩) | (show CDivW _ _; exact wide_div (b := 200) (by omega) (by assumption) (by decide) (by decide)) | (show CDivW _ _; exact wide_div (b := 31) (by omega) (by omega) (by decide) (by decide))))
  | with_reducible refine x_EqI ?_
  | with_reducible refine x_NeI ?_
  | ((with_reducible refine x_EqSt ?h ?_); (case h => decide +kernel))
  | ((with_reducible refine x_EqSf ?h ?_); (case h => decide +kernel))
  | ((with_reducible refine x_NeSt ?h ?_); (case h => decide +kernel))
  | ((with_reducible refine x_NeSf ?h ?_); (case h => decide +kernel))
  | with_reducible refine x_EqS ?_
  | with_reducible refine x_NeS ?_
  | ((with_reducible refine' x_ixL ?hq ?hi ?_); (case hq => walk_at "hk"); (case hi => first | exact rfl | assumption))
  | ((with_reducible refine' x_ixT ?hq ?hi ?_); (case hq => walk_at "hk"); (case hi => first | exact rfl | assumption))
  | with_reducible refine x_chain ?_
  | with_reducible refine x_tup ?_
  | with_reducible refine x_lst ?_
  | ((with_reducible refine x_lenNew ?hl ?_); (case hl => exact Nat.le_of_ble_eq_true rfl); intro _ _ _ _ _)
  | ((with_reducible refine x_new ?_); intro _ _ _ _ _)
  | with_reducible refine x_sl ?_
  | with_reducible refine x_noPart ?_
  | with_reducible refine x_part ?_
  | with_reducible refine x_ex_int ?_
  | with_reducible refine x_ex_bl ?_
  | with_reducible refine x_ex_2 ?_
  | with_reducible refine x_test ?_
  | with_reducible refine x_B ?_
  | with_reducible refine x_and ?_
  | with_reducible refine x_or ?_
  | with_reducible refine x_not ?_
  | with_reducible refine x_andV ?_
  | with_reducible refine x_orV ?_
  | with_reducible refine x_notV ?_
  | with_reducible refine x_ifE ?_
  | with_reducible refine x_iteT ?_
  | with_reducible refine x_iteF ?_
  | ((with_reducible refine x_iteD ?_ ?_) <;> intro _)
  | ((with_reducible refine x_iteN ?_ ?_) <;> intro _)
  | with_reducible refine x_if ?_
  | with_reducible refine x_seq ?_
  | with_reducible refine x_next ?_
  | with_reducible refine x_asg ?_
  | with_reducible refine x_gName ?_
  | ((with_reducible refine' x_gTup ?hq ?hn ?_); (case hq => walk_at "hk"); (case hn => exact rfl))
  | with_reducible refine x_gCons ?_
  | with_reducible refine x_gNil ?_
  | ((with_reducible refine' x_gConsE ?h ?_); (case h => exact rfl))
  | ((with_reducible refine x_gNilE ?h ?_); (case h => exact rfl))
  | with_reducible refine x_ret ?_
  | with_reducible refine x_drop ?_
  | with_reducible refine x_par ?_
  | ((with_reducible refine' x_aug ?hx ?_); (case hx => exact rfl))
  | with_reducible refine x_ipI ?_
  | with_reducible refine x_augS ?_
  | with_reducible refine x_gSub ?_
  | ((with_reducible refine' x_setL ?hq ?hi ?_); (case hq => walk_at "hk"); (case hi => first | exact rfl | assumption))
  | with_reducible refine x_cons ?_
  | with_reducible refine x_nil ?_
  | with_reducible refine x_CB ?_
  | with_reducible refine x_abs ?_
  | with_reducible refine x_intI ?_
  | with_reducible refine x_intB ?_
  | ((with_reducible refine' x_lenL ?hq ?_); (case hq => walk_at "hk"))
  | ((with_reducible refine' x_lenT ?hq ?_); (case hq => walk_at "hk"))
  | ((with_reducible refine x_iteTe ?h ?_); (case h => exact rfl))
  | ((with_reducible refine x_iteFe ?h ?_); (case h => exact rfl))
  | walk_at "use"
  | with_reducible refine x_callS ?_
  | ((with_reducible refine x_lc ?_))
  | ((with_reducible refine x_for ?_))
  | ((with_reducible refine x_iR1 ?_))
  | ((with_reducible refine x_iL ?_))
  | ((with_reducible refine x_iZ ?_))
  | ((with_reducible refine x_yes ?_))
  | ((with_reducible refine' x_NIDt ?hq ?_); (case hq => assumption))
  | ((with_reducible refine' x_NIDf ?hq ?_); (case hq => assumption))
  | ((with_reducible refine' x_IIDf ?hq ?_); (case hq => assumption))
  | ((with_reducible refine' x_IIDt ?hq ?_); (case hq => assumption))
  | ((with_reducible refine' x_ixDs ?hd ?hq ?_); (case hd => assumption); (case hq => assumption))
  | ((with_reducible refine x_InSt ?h ?_); (case h => decide +kernel))
  | ((with_reducible refine x_InSf ?h ?_); (case h => decide +kernel))
  | ((with_reducible refine' x_notInI ?hq ?_); (case hq => walk_at "hk"))
  | ((with_reducible refine' x_inTt ?hq ?hv ?ha ?he ?_); (case hq => walk_at "hk"); (case hv => exact rfl); (case ha => exact rfl); (case he => decide +kernel))
  | ((with_reducible refine' x_inTf ?hq ?hv ?ha ?he ?_); (case hq => walk_at "hk"); (case hv => exact rfl); (case ha => exact rfl); (case he => decide +kernel))
  | ((with_reducible refine' x_slT ?hq ?hw ?_); (case hq => walk_at "hk"); (case hw => with_unfolding_all exact of_decide_eq_true rfl))
  | ((with_reducible refine' x_slL ?hq ?_); (case hq => walk_at "hk"))
  | ((with_reducible refine' x_catT ?hq ?hr ?n1 ?n2 ?hl ?_); (case hq => walk_at "hk"); (case hr => walk_at "hk"); (case n1 => exact List.cons_ne_nil _ _); (case n2 => exact List.cons_ne_nil _ _); (case hl => exact Nat.le_of_ble_eq_true rfl))
  | ((with_reducible refine x_bm ?_))
  | ((with_reducible refine x_lstRg ?_))
  | ((with_reducible refine x_rg1 ?_))
  | ((with_reducible refine And.intro ?h ?_); (case h => exact tyL (by assumption)))
  | dsimp only)
local macro_rules | `(tactic| walk_at "use") => `(tactic| fail)
local macro_rules | `(tactic| walk_at "rd") => `(tactic| repeat' (walk_at "rd1"))
local macro_rules | `(tactic| walk_at "ex") => `(tactic| first | exact Ex.refl _ | assumption | (refine' Ex.trans ?he (by assumption); (case he => walk_at "ex")))
local macro_rules | `(tactic| walk_at "rd1") => `(tactic| first
  | ((with_reducible refine x_iteDf ?h ?_); (case h => exact rfl))
  | ((with_reducible refine x_iteDt ?h ?_); (case h => exact rfl))
  | ((with_reducible refine x_iteNf ?h ?_); (case h => exact rfl))
  | ((with_reducible refine x_iteNt ?h ?_); (case h => exact rfl))
  | ((with_reducible refine x_isiI (r := true) ?h ?_); (case h => decide +kernel))
  | ((with_reducible refine x_isiI (r := false) ?h ?_); (case h => decide +kernel))
  | ((with_reducible refine x_isiS (r := true) ?h ?_); (case h => decide +kernel))
  | ((with_reducible refine x_isiS (r := false) ?h ?_); (case h => decide +kernel))
  | ((with_reducible refine x_isiB (r := true) ?h ?_); (case h => decide +kernel))
  | ((with_reducible refine x_isiB (r := false) ?h ?_); (case h => decide +kernel))
  | ((with_reducible refine' x_isiT (r := true) ?hp ?h ?_); (case hp => walk_at "hk"); (case h => decide +kernel))
  | ((with_reducible refine' x_isiT (r := false) ?hp ?h ?_); (case hp => walk_at "hk"); (case h => decide +kernel))
  | ((with_reducible refine' x_isiL (r := true) ?hp ?h ?_); (case hp => walk_at "hk"); (case h => decide +kernel))
  | ((with_reducible refine' x_isiL (r := false) ?hp ?h ?_); (case hp => walk_at "hk"); (case h => decide +kernel))
  | ((with_reducible refine' x_isi2L ?hp ?hl ?_); (case hp => walk_at "hk"); (case hl => walk_at "hk"))
  | ((with_reducible refine' x_isi2T ?hp ?hl ?_); (case hp => walk_at "hk"); (case hl => walk_at "hk"))
  | ((with_reducible refine' x_tupOfL ?hq ?_); (case hq => walk_at "hk"))
  | ((with_reducible refine' x_tupOfT ?hq ?_); (case hq => walk_at "hk"))
  | ((with_reducible refine x_lenS ?h ?_); (case h => exact Nat.le_of_ble_eq_true rfl))
  | ((with_reducible refine' x_all ?hq ?_); (case hq => walk_at "hk"))
  | with_reducible refine x_lenSet ?_)
local macro_rules | `(tactic| walk_at "nb") => `(tactic| first | exact NB.xd | exact NB.dK)
local macro_rules | `(tactic| walk_at "rd1") => `(tactic| first
  | with_reducible refine Er.x_par3 ?_
  | with_reducible refine Er.x_ex_3 ?_
  | with_reducible refine Er.x_revL0 ?_
  | ((with_reducible refine' Er.x_revL ?hq ?_); (case hq => walk_at "hk"))
  | with_reducible refine Er.x_dget2 ?_
  | with_reducible refine x_dict0 ?_
  | ((with_reducible refine x_pow ?hc ?_); (case hc => exact ⟨by decide, by decide, by decide⟩))
  | ((with_reducible refine And.intro ?h ?_); (case h => exact tyL (by walk_at "hk")))
  | ((with_reducible refine' Er.x_dis ?hq ?_); (case hq => walk_at "hk"))
  | ((with_reducible refine' Er.x_dgo ?hq ?he ?_); (case hq => walk_at "hk"); (case he => exact rfl)))
local macro_rules | `(tactic| walk_at "rd1") => `(tactic| first
  | with_reducible refine Er.x_iR2 ?_
  | with_reducible refine Er.x_iEn ?_
  | with_reducible refine Er.x_cont ?_
  | ((with_reducible refine Er.x_isBt ?h ?_); (case h => exact rfl))
  | ((with_reducible refine Er.x_isBf ?h ?_); (case h => exact rfl))
  | ((with_reducible refine Er.x_isNBt ?h ?_); (case h => exact rfl))
  | ((with_reducible refine Er.x_isNBf ?h ?_); (case h => exact rfl))
  | with_reducible refine Er.x_isB ?_
  | with_reducible refine Er.x_isNB ?_)

open Cl
local macro_rules | `(tactic| walk_at "bg") => `(tactic| first | assumption | exact Ex.bag (by assumption) (by walk_at "bg"))
local macro_rules | `(tactic| walk_at "use") => `(tactic| ((with_reducible refine' u_Ltake ?hb ?h0 ?h1 ?_); (case hb => walk_at "bg"); (case h0 => omega); (case h1 => omega); intro _ _ _ _ _))
local macro_rules | `(tactic| walk_at "nb") => `(tactic| first | exact NB.strs | exact NB.bls)
local macro_rules | `(tactic| walk_at "rf") => `(tactic| first | assumption | exact Ow.Refs.drop (by assumption) | exact Ow.Refs.take (by assumption) | exact Ow.Refs.nil | (refine Ow.Refs.cons ?_; walk_at "rf") | (refine Ow.Refs.app ?_ ?_ <;> walk_at "rf") | (refine Ow.Refs.cut ?_; walk_at "rf") | (refine Ow.Refs.rev ?_; walk_at "rf"))
local macro_rules | `(tactic| walk_at "nb") => `(tactic| first | assumption | (refine Ow.Refs.nb ?_; walk_at "rf"))
local macro_rules | `(tactic| walk_at "ln") => `(tactic| exact Nat.le_trans (show _ ≤ 1000 by first | omega | (simp only [Ow.cut_take, Ow.cut_drop, Ow.cut_drop1, Ow.cut_drop_one, Ow.cut_take_one, List.length_append, List.length_take, List.length_drop, List.length_cons, List.length_nil, List.length_reverse]; omega)) (by decide))
local macro_rules | `(tactic| walk_at "rd1") => `(tactic| first
  | ((with_reducible refine' x_cat ?h ?h' ?l ?_); (case h => walk_at "hk"); (case h' => walk_at "hk"); (case l => walk_at "ln"))
  | ((with_reducible refine' x_listOfL ?h ?_); (case h => walk_at "hk")))
local macro_rules | `(tactic| walk_at "sc") => `(tactic| first | assumption | (refine' Scr.mono ?hscr ?escr; (case hscr => assumption); (case escr => walk_at "ex")))
local macro_rules | `(tactic| walk_at "rd1") => `(tactic| first
  | with_reducible refine x_iT ?_
  | with_reducible refine Ow.x_bm0 ?_
  | with_reducible refine x_make ?_
  | with_reducible refine Ow.x_meth ?_
  | with_reducible refine Ow.x_prop ?_
  | with_reducible refine Ow.x_iOwn ?_
  | ((with_reducible refine' x_methS ?h ?l ?_); (case h => walk_at "sc"); (case l => intro _ _; exact rfl))
  | ((with_reducible refine' x_propS ?h ?_); (case h => walk_at "sc"))
  | ((with_reducible refine' u_sfiles ?h ?_); (case h => walk_at "sc"))
  | ((with_reducible refine' u_ssize ?h ?hl ?_); (case h => walk_at "sc"); (case hl => omega); intro _ _)
  | ((with_reducible refine' u_scalls ?h ?_); (case h => walk_at "sc"); intro _ _ _ _ _ _ _)
  | ((with_reducible refine' u_sstraight ?h ?hl ?_); (case h => walk_at "sc"); (case hl => omega); intro _ _)
  | ((with_reducible refine' x_lenS' ?e ?h ?hl ?_); (case e => exact rfl); (case h => walk_at "sc"); (case hl => omega))
  | ((with_reducible refine' x_listS ?e ?h ?_); (case e => exact rfl); (case h => walk_at "sc"); intro _ _ _ _ _ _ _)
  | ((with_reducible refine' x_eqS ?c ?h ?h' ?_); (case c => assumption); (case h => walk_at "sc"); (case h' => walk_at "sc"))
  | ((with_reducible refine' x_neS ?c ?h ?h' ?_); (case c => assumption); (case h => walk_at "sc"); (case h' => walk_at "sc"))
  | ((with_reducible refine' x_eqSL ?c ?h ?h' ?_); (case c => assumption); (case h => walk_at "sc"); (case h' => walk_at "hk"))
  | ((with_reducible refine' x_eqST ?c ?h ?h' ?_); (case c => assumption); (case h => walk_at "sc"); (case h' => walk_at "hk"))
  | ((with_reducible refine' x_eqSI ?c ?h ?_); (case c => assumption); (case h => walk_at "sc")))
section
variable {P : Program} {w : World} {K : PySem.W.Frag} {mg : Str → Option Value} {base : Heap} {a : Ad} {H H1 H2 : Hp} {Q : VK} {E : XK} {p b c t s l : Addr} {xs ys vs : List V} {q : C} {qs us : List C} {o : HO} {n m : Nat} {g g' : Int → Int → Int} {CS CL : Addr}
open Er
theorem Drawn.good {fs : Int} (h : Drawn fs qs) : ∀ q ∈ qs, q.Good fs := fun q hq => (h q hq).1.good
theorem _root_.Sx.Bag.ex' (hb : Bag b H) (e : Ex H H1) : Bag b H1 := e.bag hb
theorem x_rgN (hz : Sz n m) (k : ∀ t H1, Ex H H1 → H1 t = some (.lst ((Ivs.rg (n * m)).map V.int)) → Q (.ref t) H1) : RgOk 0 ((n : Int) * m) ∧ JustNew (.lst (rgV 0 ((n : Int) * m))) H Q := by
  have hnm := hz.lt
  rw [← Int.natCast_mul]
  refine ⟨RgOk.of_le (by omega) (by omega) (by omega) (by omega), x_new fun t H1 e1 f1 h1 => k t H1 e1 ?_⟩
  rw [h1, rg_ints]
  rfl
theorem beh2 {n m : Nat} {g : Int → Int → Int} (hn : 0 < n) (h : ∀ q ∈ qs, C.ok q n) (k l : Int) : ord n m (ledg (sg l qs) n m (ledg (sg k qs) n m g)) = ord n m (ledg (sg (k + l) qs) n m g) := by
  rw [← ledg_app]
  exact ord_alike hn (fun q hq => (List.mem_append.mp hq).elim (sg_ok h k q) (sg_ok h l q)) (sg_ok h _) fun x hx => sg_add h k l hx
def sp_law (K : PySem.W.Frag) : Sp := fun vs H Q _ => ∃ (a : Addr) (ns : List Int), vs = [.ref a] ∧ SqL K H a (ns.map V.int) ∧ ns.length ≤ 63 ∧ ∀ H', Q (.bl true) H'
theorem law_start {ns : List Int} {s : Addr} (hl : ns.length ≤ 63) (hS : SqL K H s (ns.map V.int)) : sp_law K [.ref s] H (fun v _ => v = .bl true) E := ⟨s, ns, rfl, hS, hl, fun _ => rfl⟩
theorem ok_law (T : Txt K w mg a) : Ow.FnG P w K mg base CX0 11 a.a_law a.fd_law ["_law_script"] (sp_law K) := by
  refine Ow.fnG_of T.F_law sc_law (fun vs H Q E h => ?_) (fun cdv A outer s H vs Q E hG hr h => ?_)
  · obtain ⟨s, ns, rfl, _⟩ := h; rfl
  · obtain ⟨s, ns, rfl, hs, hl, k⟩ := h
    have G_Lbag := ok_Lbag (P := P) (base := base) T
    have G_Ltake := ok_Ltake (P := P) (base := base) T
    have G_Lcalls := ok_Lcalls (P := P) (base := base) T
    have G_Lall_kinds := ok_Lall_kinds (P := P) (base := base) T
    have G_Lbegun := ok_Lbegun (P := P) (base := base) T
    have G_Lbehind := ok_Lbehind (P := P) (base := base) T
    have G_Lplaces_right := ok_Lplaces_right (P := P) (base := base) T
    have G_Script_init := ok_Script_init (P := P) (base := base) T
    have G_Script_invert := ok_Script_invert (P := P) (base := base) T
    have G_Script_mul := ok_Script_mul (P := P) (base := base) T
    have G_Script_times := ok_Script_times (P := P) (base := base) T
    have G_Line_eq := ok_Line_eq (P := P) (base := base) T
    have G_Line_order := ok_Line_order (P := P) (base := base) T
    refine ⟨_, (pss_cons (ps_set (i := 1) sc_law.nd rfl (Or.inl rfl) (pe_call G_Lbag (hr.mono (by decide)) (by rfl) T.m_Lbag T.k_Lbag T.b_Lbag .nil pass0 (pa_cons (pv 0) pa_nil)))
      (pss_cons (ps_for PassesOwn.never rfl (pi_range1 (by rfl) T.n_range (pa_cons pe_int pa_nil)) (pg_name (i := 2) sc_law.nd rfl (Or.inl rfl)) (pss_cons (ps_par (i := 3) (j := 4) rfl sc_law.nd rfl rfl (by decide) rfl rfl (pa_cons (pe_op op_add pe_int (pe_call G_Ltake (hr.mono (by decide)) (by rfl) T.m_Ltake T.k_Ltake T.b_Ltake .nil pass0 (pa_cons (pv 1) (pa_cons pe_int pa_nil)))) (pa_cons (pe_op op_add pe_int (pe_call G_Ltake (hr.mono (by decide)) (by rfl) T.m_Ltake T.k_Ltake T.b_Ltake .nil pass0 (pa_cons (pv 1) (pa_cons pe_int pa_nil)))) pa_nil)) rfl)
      (pss_cons (ps_set (i := 5) sc_law.nd rfl (Or.inl rfl) (pe_call G_Lbegun (hr.mono (by decide)) (by rfl) T.m_Lbegun T.k_Lbegun T.b_Lbegun .nil pass0 (pa_cons (pv 1) (pa_cons (pv 3) (pa_cons (pv 4) pa_nil)))))
      (pss_cons (ps_set (i := 6) sc_law.nd rfl (Or.inl rfl) (pe_make T.M_Script G_Script_init (hr.mono (by decide)) (by rfl) T.m_Script T.b_Script_init .nil pass0 (pa_cons (pv 3) (pa_cons (pe_call G_Lcalls (hr.mono (by decide)) (by rfl) T.m_Lcalls T.k_Lcalls T.b_Lcalls .nil pass0 (pa_cons (pv 1) (pa_cons (pv 3) (pa_cons (pe_call0 G_Lall_kinds (hr.mono (by decide)) (by rfl) T.m_Lall_kinds T.k_Lall_kinds T.b_Lall_kinds .nil pass0) (pa_cons (pe_call G_Ltake (hr.mono (by decide)) (by rfl) T.m_Ltake T.k_Ltake T.b_Ltake .nil pass0 (pa_cons (pv 1) (pa_cons pe_int pa_nil))) pa_nil))))) pa_nil))))
      (pss_cons (ps_set (i := 7) sc_law.nd rfl (Or.inl rfl) (pe_make T.M_Script G_Script_init (hr.mono (by decide)) (by rfl) T.m_Script T.b_Script_init .nil pass0 (pa_cons (pv 3) (pa_cons (pe_call G_Lcalls (hr.mono (by decide)) (by rfl) T.m_Lcalls T.k_Lcalls T.b_Lcalls .nil pass0 (pa_cons (pv 1) (pa_cons (pv 3) (pa_cons (pe_call0 G_Lall_kinds (hr.mono (by decide)) (by rfl) T.m_Lall_kinds T.k_Lall_kinds T.b_Lall_kinds .nil pass0) (pa_cons (pe_call G_Ltake (hr.mono (by decide)) (by rfl) T.m_Ltake T.k_Ltake T.b_Ltake .nil pass0 (pa_cons (pv 1) (pa_cons pe_int pa_nil))) pa_nil))))) pa_nil))))
      (pss_cons (ps_par (i := 8) (j := 9) rfl sc_law.nd rfl rfl (by decide) rfl rfl (pa_cons (pe_op op_sub (pe_call G_Ltake (hr.mono (by decide)) (by rfl) T.m_Ltake T.k_Ltake T.b_Ltake .nil pass0 (pa_cons (pv 1) (pa_cons pe_int pa_nil))) pe_int) (pa_cons (pe_op op_sub (pe_call G_Ltake (hr.mono (by decide)) (by rfl) T.m_Ltake T.k_Ltake T.b_Ltake .nil pass0 (pa_cons (pv 1) (pa_cons pe_int pa_nil))) pe_int) pa_nil)) rfl)
      (pss_cons (ps_set (i := 10) sc_law.nd rfl (Or.inl rfl) (pe_call G_Lbehind (hr.mono (by decide)) (by rfl) T.m_Lbehind T.k_Lbehind T.b_Lbehind .nil pass0 (pa_cons (pe_call G_Lbehind (hr.mono (by decide)) (by rfl) T.m_Lbehind T.k_Lbehind T.b_Lbehind .nil pass0 (pa_cons (pv 5) (pa_cons (pv 6) (pa_cons (pv 8) pa_nil)))) (pa_cons (pv 6) (pa_cons (pv 9) pa_nil)))))
      (pss_cons (ps_if (pt_cmpR (Ow.op_neOwn G_Line_eq T.Q_Line_eq.at_ T.Q_Line_eq.fn T.b_Line_eq pass0 (hr.mono (by decide)) T.X_Line.ne T.t_Line.hm) (pv 10) (pe_call G_Lbehind (hr.mono (by decide)) (by rfl) T.m_Lbehind T.k_Lbehind T.b_Lbehind .nil pass0 (pa_cons (pv 5) (pa_cons (pv 6) (pa_cons (pe_op op_add (pv 8) (pv 9)) pa_nil)))) (nomark _)) (pss_one (ps_ret pe_bl)) pss_nil)
      (pss_cons (ps_if (pt_cmpR (Ow.op_neOwn G_Line_eq T.Q_Line_eq.at_ T.Q_Line_eq.fn T.b_Line_eq pass0 (hr.mono (by decide)) T.X_Line.ne T.t_Line.hm) (pv 10) (pe_call G_Lbehind (hr.mono (by decide)) (by rfl) T.m_Lbehind T.k_Lbehind T.b_Lbehind .nil pass0 (pa_cons (pe_call G_Lbehind (hr.mono (by decide)) (by rfl) T.m_Lbehind T.k_Lbehind T.b_Lbehind .nil pass0 (pa_cons (pv 5) (pa_cons (pv 6) (pa_cons (pv 9) pa_nil)))) (pa_cons (pv 6) (pa_cons (pv 8) pa_nil)))) (nomark _)) (pss_one (ps_ret pe_bl)) pss_nil)
      (pss_cons (ps_if (pt_cmpR (Ow.op_neOwn G_Line_eq T.Q_Line_eq.at_ T.Q_Line_eq.fn T.b_Line_eq pass0 (hr.mono (by decide)) T.X_Line.ne T.t_Line.hm) (pe_call G_Lbehind (hr.mono (by decide)) (by rfl) T.m_Lbehind T.k_Lbehind T.b_Lbehind .nil pass0 (pa_cons (pe_call G_Lbehind (hr.mono (by decide)) (by rfl) T.m_Lbehind T.k_Lbehind T.b_Lbehind .nil pass0 (pa_cons (pv 5) (pa_cons (pv 6) (pa_cons (pv 8) pa_nil)))) (pa_cons (pe_un (Ow.un_invOwn G_Script_invert T.Q_Script_invert.at_ T.Q_Script_invert.fn T.b_Script_invert pass0 (hr.mono (by decide))) (pv 6)) (pa_cons (pv 8) pa_nil)))) (pv 5) (nomark _)) (pss_one (ps_ret pe_bl)) pss_nil)
      (pss_cons (ps_if (pt_cmpR (Ow.op_neOwn G_Line_eq T.Q_Line_eq.at_ T.Q_Line_eq.fn T.b_Line_eq pass0 (hr.mono (by decide)) T.X_Line.ne T.t_Line.hm) (pe_call G_Lbehind (hr.mono (by decide)) (by rfl) T.m_Lbehind T.k_Lbehind T.b_Lbehind .nil pass0 (pa_cons (pv 5) (pa_cons (pe_op (Ow.op_mulOwn G_Script_mul T.Y_Script T.Q_Script_mul.at_ T.Q_Script_mul.fn T.b_Script_mul pass0 (hr.mono (by decide))) (pv 6) (pv 7)) (pa_cons pe_int pa_nil)))) (pe_call G_Lbehind (hr.mono (by decide)) (by rfl) T.m_Lbehind T.k_Lbehind T.b_Lbehind .nil pass0 (pa_cons (pe_call G_Lbehind (hr.mono (by decide)) (by rfl) T.m_Lbehind T.k_Lbehind T.b_Lbehind .nil pass0 (pa_cons (pv 5) (pa_cons (pv 6) (pa_cons pe_int pa_nil)))) (pa_cons (pv 7) (pa_cons pe_int pa_nil)))) (nomark _)) (pss_one (ps_ret pe_bl)) pss_nil)
      (pss_cons (ps_set (i := 11) sc_law.nd rfl (Or.inl rfl) (pe_op op_sub (pe_call G_Ltake (hr.mono (by decide)) (by rfl) T.m_Ltake T.k_Ltake T.b_Ltake .nil pass0 (pa_cons (pv 1) (pa_cons pe_int pa_nil))) pe_int))
      (pss_cons (ps_if (pt_cmpR (Ow.op_neOwn G_Line_eq T.Q_Line_eq.at_ T.Q_Line_eq.fn T.b_Line_eq pass0 (hr.mono (by decide)) T.X_Line.ne T.t_Line.hm) (pe_call G_Lbehind (hr.mono (by decide)) (by rfl) T.m_Lbehind T.k_Lbehind T.b_Lbehind .nil pass0 (pa_cons (pv 5) (pa_cons (pe_meth (pv 6) T.t_Script.cl T.Q_Script_times G_Script_times (hr.mono (by decide)) T.b_Script_times .nil pass0 (pa_cons (pv 11) pa_nil)) (pa_cons pe_int pa_nil)))) (pe_call G_Lbehind (hr.mono (by decide)) (by rfl) T.m_Lbehind T.k_Lbehind T.b_Lbehind .nil pass0 (pa_cons (pv 5) (pa_cons (pv 6) (pa_cons (pv 11) pa_nil)))) (nomark _)) (pss_one (ps_ret pe_bl)) pss_nil)
      (pss_cons (ps_if (PW.pt (pw_or (pt_cmpR (op_neD hr.units) (pe_callB cr_sortedI (by rfl) T.n_sorted (by decide +kernel) (pa_cons (pe_meth0 (pv 10) T.t_Line.cl T.Q_Line_order G_Line_order (hr.mono (by decide)) T.b_Line_order .nil pass0) pa_nil)) (pe_listRg rfl (by rfl) T.n_list (prg_1 (by rfl) T.n_range (pe_op op_mul (pv 3) (pv 4)))) (nomark _)) (pw_or1 (pt_cmpR (Ow.op_neOwn G_Line_eq T.Q_Line_eq.at_ T.Q_Line_eq.fn T.b_Line_eq pass0 (hr.mono (by decide)) T.X_Line.ne T.t_Line.hm) (pe_call G_Lbehind (hr.mono (by decide)) (by rfl) T.m_Lbehind T.k_Lbehind T.b_Lbehind .nil pass0 (pa_cons (pv 5) (pa_cons (pv 6) (pa_cons pe_int pa_nil)))) (pv 5) (nomark _))))) (pss_one (ps_ret pe_bl)) pss_nil)
      (pss_one (ps_if (pt_not (pt_val (pe_call G_Lplaces_right (hr.mono (by decide)) (by rfl) T.m_Lplaces_right T.k_Lplaces_right T.b_Lplaces_right .nil pass0 (pa_cons (pv 1) (pa_cons (pv 6) (pa_cons (pv 7) (pa_cons (pv 3) (pa_cons (pv 4) pa_nil)))))))) (pss_one (ps_ret pe_bl)) pss_nil))))))))))))))))
      (pss_one (ps_ret pe_bl)))), ?_⟩
    walk_at "rd"
    refine u_Lbag hs hl fun b H1 e1 hb => ?_
    walk_at "rd"
    refine for_rng (m := 5) (by decide) (by decide) (fun i σ H' => ∃ v2 v3 v4 v5 v6 v7 v8 v9 v10 v11 : Option V, σ = [some (.ref s), some (.ref b), v2, v3, v4, v5, v6, v7, v8, v9, v10, v11] ∧ Bag b H') ⟨_, _, _, _, _, _, _, _, _, _, rfl, hb⟩ (fun i σ H2 hi h => ?_) (fun σ H2 h => ?_)
    · obtain ⟨v2, v3, v4, v5, v6, v7, v8, v9, v10, v11, rfl, hb2⟩ := h
      walk_at "rd"
      rename_i d H3 e3 d0 d1 d2 H4 e4 d20 d21
      obtain ⟨n, hn, hn2⟩ : ∃ n : Nat, 2 + d = (n : Int) ∧ (n = 2 ∨ n = 3) := ⟨(2 + d).toNat, by omega, by omega⟩
      obtain ⟨m, hm, hm0, hm1⟩ : ∃ m : Nat, 1 + d2 = (m : Int) ∧ 1 ≤ m ∧ m ≤ 400 := ⟨(1 + d2).toNat, by omega, by omega, by omega⟩
      rw [hn, hm]
      have hz : Sz n m := ⟨hn2, by omega, by omega⟩
      have hf : (n : Int) = 2 ∨ (n : Int) = 3 := by omega
      have n0 := hz.n0
      have hb4 : Bag b H4 := by walk_at "bg"
      clear e3 e4 hb2 hb e1
      refine u_Lbegun hb4 hz hm1 fun ln H5 cs e5 okc li5 => ?_
      have hb5 := hb4.ex' e5
      clear e5 hb4
      walk_at "rd"
      refine u_Lall_kinds fun p6 H6 e6 h6 => ?_
      walk_at "rd"
      rename_i d4 H7 e7 d40 d41
      refine u_Lcalls ten (by walk_at "bg") hf (e7.kp _ _ h6 NB.strs) (by decide) (by decide) (fun _ h => h) d40 (by omega) fun c xs qs H8 e8 f8 h8 c8 dr l8 l8' => ?_
      have okq : ∀ q ∈ qs, q.ok n := fun q hq => (dr q hq).1
      have hb8 : Bag b H8 := by walk_at "bg"
      have li8 := li5.mono (e6.trans (e7.trans e8))
      clear e6 h6 e7 e8 f8 hb5 li5
      walk_at "rd"
      refine u_make ⟨xs, .inl h8, c8⟩ (Drawn.good dr) hz.two.1 hz.two.2 (by omega) fun so H9 e9 s9 => ?_
      have hb9 := hb8.ex' e9
      have li9 := li8.mono e9
      clear e9 hb8 li8 h8 c8
      walk_at "rd"
      refine u_Lall_kinds fun p6 H6 e6 h6 => ?_
      walk_at "rd"
      rename_i d5 H7 e7 d50 d51
      refine u_Lcalls ten (by walk_at "bg") hf (e7.kp _ _ h6 NB.strs) (by decide) (by decide) (fun _ h => h) d50 (by omega) fun c2 ys us H10 e10 f10 h10 c10 du l10 l10' => ?_
      have oku : ∀ q ∈ us, q.ok n := fun q hq => (du q hq).1
      have hb10 : Bag b H10 := by walk_at "bg"
      have e910 := e6.trans (e7.trans e10)
      have li10 := li9.mono e910
      have s10 := s9.mono e910
      clear e6 h6 e7 e10 f10 hb9 li9 s9 e910
      walk_at "rd"
      refine u_make ⟨ys, .inl h10, c10⟩ (Drawn.good du) hz.two.1 hz.two.2 (by omega) fun sp H11 e11 t11 => ?_
      have hb11 := hb10.ex' e11
      have li11 := li10.mono e11
      have s11 := s10.mono e11
      clear e11 hb10 li10 s10 h10 c10
      walk_at "rd"
      rename_i d6 H12 e12 d60 d61 d7 H13 e13 d70 d71
      obtain ⟨k1, hk1⟩ : ∃ k1 : Int, d6 - 20 = k1 := ⟨_, rfl⟩
      obtain ⟨k2, hk2⟩ : ∃ k2 : Int, d7 - 20 = k2 := ⟨_, rfl⟩
      rw [hk1, hk2]
      have e1113 := e12.trans e13
      have hb13 := hb11.ex' e1113
      have li13 := li11.mono e1113
      have s13 := s11.mono e1113
      have t13 := t11.mono e1113
      clear e1113 e12 e13 hb11 li11 s11 t11
      have lq : qs.length ≤ 100 := by omega
      have lu : us.length ≤ 100 := by omega
      have lq4 : qs.length ≤ 400 := by omega
      have lu4 : us.length ≤ 400 := by omega
      have okr := ok_rev okq
      have lr4 : (qs.reverse.map C.turned).length ≤ 400 := by simp; omega
      clear l8 l8' l10 l10'
      obtain ⟨G, hG'⟩ : ∃ G, ledg cs n m (num0 n) = G := ⟨_, rfl⟩
      rw [hG'] at li13
      refine u_Lbehind li13 s13 okq lq4 hz hm1 fun x1 H14 e14 m1 => ?_
      walk_at "rd"
      refine u_Lbehind m1 (s13.mono e14) okq lq4 hz hm1 fun x2 H15 e15 m2 => ?_
      walk_at "rd"
      have e1415 := e14.trans e15
      refine u_Lbehind (li13.mono e1415) (s13.mono e1415) okq lq4 hz hm1 fun x3 H16 e16 m3 => ?_
      walk_at "rd"
      have m16 := m2.mono e16
      have e1416 := e1415.trans e16
      have hb16 := hb13.ex' e1416
      have li16 := li13.mono e1416
      have s16 := s13.mono e1416
      have t16 := t13.mono e1416
      clear e1416 e1415 e14 e15 e16 hb13 li13 s13 t13 m1 m2
      refine x_neL T.X_Line m16 m3 (beh2 n0 okq k1 k2) ?_
      clear m3
      walk_at "rd"
      refine u_Lbehind li16 s16 okq lq4 hz hm1 fun x1 H14 e14 m1 => ?_
      walk_at "rd"
      refine u_Lbehind m1 (s16.mono e14) okq lq4 hz hm1 fun x2' H15 e15 m2 => ?_
      walk_at "rd"
      have e1415 := e14.trans e15
      have hb15 := hb16.ex' e1415
      have li15 := li16.mono e1415
      have s15 := s16.mono e1415
      have t15 := t16.mono e1415
      have m15 := m16.mono e1415
      clear e1415 e14 e15 hb16 li16 s16 t16 m1 m16
      refine x_neL T.X_Line m15 m2 (by rw [beh2 n0 okq, beh2 n0 okq, Int.add_comm]) ?_
      clear m2
      walk_at "rd"
      refine u_Lbehind li15 s15 okq lq4 hz hm1 fun x1 H16 e16 m1 => ?_
      walk_at "rd"
      refine x_invS (s15.mono e16) (Drawn.good dr) hz.two.1 hz.two.2 lq4 fun iv H17 e17 s17 => ?_
      walk_at "rd"
      refine u_Lbehind (m1.mono e17) s17 okr lr4 hz hm1 fun x2' H18 e18 m2 => ?_
      walk_at "rd"
      have e1618 := (e16.trans e17).trans e18
      have hb18 := hb15.ex' e1618
      have li18 := li15.mono e1618
      have s18 := s15.mono e1618
      have t18 := t15.mono e1618
      have m18 := m15.mono e1618
      clear e1618 e16 e17 e18 hb15 li15 s15 t15 m1 m15 s17
      refine x_neL T.X_Line m2 li18 (by rw [sg_turned, beh2 n0 okq, Int.add_right_neg, sg_zero]; rfl) ?_
      clear m2
      walk_at "rd"
      refine x_mulS s18 t18 (Drawn.good dr) (Drawn.good du) hz.two.1 hz.two.2 lq4 lu4 fun pr H19 e19 s19 => ?_
      walk_at "rd"
      have oka : ∀ q ∈ qs ++ us, q.ok n := fun q hq => (List.mem_append.mp hq).elim (okq q) (oku q)
      refine u_Lbehind (li18.mono e19) s19 oka (by simp; omega) hz hm1 fun x1 H20 e20 m1 => ?_
      walk_at "rd"
      have e1920 := e19.trans e20
      refine u_Lbehind (li18.mono e1920) (s18.mono e1920) okq lq4 hz hm1 fun x3 H21 e21 m3 => ?_
      walk_at "rd"
      have e1921 := e1920.trans e21
      refine u_Lbehind m3 (t18.mono e1921) oku lu4 hz hm1 fun x4 H22 e22 m4 => ?_
      walk_at "rd"
      have m5 := m1.mono (e21.trans e22)
      have e1922 := e1921.trans e22
      have hb22 := hb18.ex' e1922
      have li22 := li18.mono e1922
      have s22 := s18.mono e1922
      have t22 := t18.mono e1922
      have m22 := m18.mono e1922
      clear e1922 e1921 e1920 e19 e20 e21 e22 hb18 li18 s18 t18 m18 m1 m3 s19
      refine x_neL T.X_Line m5 m4 (by rw [sg_one, sg_one, sg_one, ledg_app]) ?_
      clear m5 m4
      walk_at "rd"
      rename_i d8 H23 e23 d80 d81
      obtain ⟨k3, hk3⟩ : ∃ k3 : Int, d8 - 4 = k3 := ⟨_, rfl⟩
      have q30 : -4 ≤ k3 := by omega
      have q31 : k3 ≤ 4 := by omega
      try rw [hk3]
      have hb23 := hb22.ex' e23
      have li23 := li22.mono e23
      have s23 := s22.mono e23
      have t23 := t22.mono e23
      have m23 := m22.mono e23
      clear e23 hb22 li22 s22 t22 m22
      refine u_stimes s23 (Drawn.good dr) hz.two.1 hz.two.2 lq (by omega) (by omega) fun ts H24 e24 s24 => ?_
      have s24' : Scr a.c_Script H24 ts n (sg k3 qs) := s24
      have lsg : (sg k3 qs).length ≤ 400 := by
        unfold sg rep
        rw [rep_len]
        exact Nat.le_trans (Nat.mul_le_mul (show k3.natAbs ≤ 4 by omega) (show _ ≤ 100 by split; exact lq; rw [List.length_map, List.length_reverse]; exact lq)) (by decide)
      walk_at "rd"
      refine u_Lbehind (li23.mono e24) s24' (sg_ok okq k3) lsg hz hm1 fun x1 H25 e25 m1 => ?_
      walk_at "rd"
      have e2425 := e24.trans e25
      refine u_Lbehind (li23.mono e2425) (s23.mono e2425) okq lq4 hz hm1 fun x3 H26 e26 m3 => ?_
      walk_at "rd"
      have m4 := m1.mono e26
      have e2426 := e2425.trans e26
      have hb26 := hb23.ex' e2426
      have li26 := li23.mono e2426
      have s26 := s23.mono e2426
      have t26 := t23.mono e2426
      have m26 := m23.mono e2426
      clear e2426 e2425 e24 e25 e26 hb23 li23 s23 t23 m23 m1 s24 s24'
      refine x_neL T.X_Line m4 m3 (by rw [sg_one]) ?_
      clear m4 m3
      walk_at "rd"
      refine x_methL m26 (fun _ => rfl) ?_
      walk_at "rd"
      refine ⟨x2, n, m, _, rfl, m26, fun t27 H27 e27 f27 h27 => ?_⟩
      have hb27 := hb26.ex' e27
      have li27 := li26.mono e27
      have s27 := s26.mono e27
      have t27' := t26.mono e27
      clear e27 f27 hb26 li26 s26 t26 m26
      walk_at "rd"
      refine ⟨t27, _, rfl, SqL.of h27, fun ns' ps pm pw fp => ?_⟩
      have ens : ns' = Ivs.rg (n * m) := by
        refine sorted_one (pm.trans ?_) pw ((Ivs.rg_sorted _).imp fun h => Int.le_of_lt h)
        rw [← hG', ← ledg_app, ← ledg_app]
        exact ord_perm n0 fun q hq => (List.mem_append.mp hq).elim (okc q) fun hq => (List.mem_append.mp hq).elim (sg_ok okq _ q) (sg_ok okq _ q)
      subst ens
      have e28 : Ex H27 (upd H27 ps (.lst ((Ivs.rg (n * m)).map V.int))) := Ex.new fp
      have h28 : upd H27 ps (.lst ((Ivs.rg (n * m)).map V.int)) ps = some (.lst ((Ivs.rg (n * m)).map V.int)) := upd_same
      generalize upd H27 ps (.lst ((Ivs.rg (n * m)).map V.int)) = H28 at e28 h28 ⊢
      walk_at "rd"
      refine x_rgN hz fun t29 H29 e29 h29 => ?_
      walk_at "rd"
      refine ne_ints (e29.kp _ _ h28 NB.ints) h29 ?_
      have e2829 := e28.trans e29
      have hb29 := hb27.ex' e2829
      have li29 := li27.mono e2829
      have s29 := s27.mono e2829
      have t29 := t27'.mono e2829
      clear e2829 e28 e29 h28 h29 fp hb27 li27 s27 t27' h27
      walk_at "rd"
      refine u_Lbehind li29 s29 okq lq4 hz hm1 fun x1 H30 e30 m1 => ?_
      walk_at "rd"
      refine x_neL T.X_Line m1 (li29.mono e30) (by rw [sg_zero]; rfl) ?_
      have hb30 := hb29.ex' e30
      have s30 := s29.mono e30
      have t30 := t29.mono e30
      clear e30 hb29 li29 s29 t29 m1
      walk_at "rd"
      refine u_Lplaces_right hb30 s30 t30 okq oku lq lu hz hm1 fun H31 e31 => ?_
      walk_at "rd"
      exact ⟨_, _, _, _, _, _, _, _, _, _, rfl, hb30.ex' e31⟩
    · obtain ⟨v2, v3, v4, v5, v6, v7, v8, v9, v10, v11, rfl, hb2⟩ := h
      walk_at "rd"
      exact k _
end
end My

set_option Elab.async false
set_option linter.all false
set_option maxRecDepth 100000
set_option maxHeartbeats 8000000
namespace My
open PySem PySem.Spec PyProof.Rows L2 Sx
local macro_rules | `(tactic| walk_at "nb") => `(tactic| first | exact NB.tup | exact NB.ints | exact NB.len (of_decide_eq_true rfl) | exact NB.at0b rfl | exact NB.at3b rfl | exact NB.ins | exact NB.own | exact NB.frz | exact NB.refs (by assumption) | assumption)
local macro_rules | `(tactic| walk_at "ne") => `(tactic| first | assumption | exact Ne.symm (by assumption) | exact ne_of_none (by assumption) (by assumption) | exact Ne.symm (ne_of_none (by assumption) (by assumption)))
local macro_rules | `(tactic| walk_at "hk") => `(tactic| first
  | assumption
  | exact upd_same
  | (refine' (upd_ne ?hkne).trans ?hkq; (case hkne => walk_at "ne"); (case hkq => walk_at "hk"))
  | (refine' Ex.kp (by assumption) _ _ ?hkq ?hkn; (case hkq => walk_at "hk"); (case hkn => walk_at "nb")))
local macro_rules | `(tactic| walk_at "rd1") => `(tactic| first
  | ((with_reducible refine' x_var ?hx ?_); (case hx => exact rfl))
  | with_reducible refine x_c ?_
  | with_reducible refine x_op ?_
  | with_reducible refine x_un ?_
  | with_reducible refine x_I0 ?_
  | with_reducible refine x_U ?_
  | ((with_reducible refine x_I ?hc ?_); (case hc => first | exact (by decide : (0 : Int) < _) | (show (0 : Int) < _; omega) | (show CMul _ _; first | exact .inl ⟨by omega, by omega⟩ | exact .inr ⟨by omega, by omega⟩) | (show CDiv _ _; exact ⟨by omega, by omega⟩) | (show CDivW _ _; exact wide_div (b := 200) (by omega) (by assumption) (by decide) (by decide)) | (show CDivW _ _; exact wide_div (b := 31) (by omega) (by omega) (by decide) (by decide))))
  | with_reducible refine x_EqI ?_
  | with_reducible refine x_NeI ?_
  | ((with_reducible refine x_EqSt ?h ?_); (case h => decide +kernel))
  | ((with_reducible refine x_EqSf ?h ?_); (case h => decide +kernel))
  | ((with_reducible refine x_NeSt ?h ?_); (case h => decide +kernel))
  | ((with_reducible refine x_NeSf ?h ?_); (case h => decide +kernel))
  | with_reducible refine x_EqS ?_
  | with_reducible refine x_NeS ?_
  | ((with_reducible refine' x_ixL ?hq ?hi ?_); (case hq => walk_at "hk"); (case hi => first | exact rfl | assumption))
  | ((with_reducible refine' x_ixT ?hq ?hi ?_); (case hq => walk_at "hk"); (case hi => first | exact rfl | assumption))
  | with_reducible refine x_chain ?_
  | with_reducible refine x_tup ?_
  | with_reducible refine x_lst ?_
  | ((with_reducible refine x_lenNew ?hl ?_); (case hl => exact Nat.le_of_ble_eq_true rfl); intro _ _ _ _ _)
  | ((with_reducible refine x_new ?_); intro _ _ _ _ _)
  | with_reducible refine x_sl ?_
  | with_reducible refine x_noPart ?_
  | with_reducible refine x_part ?_
  | with_reducible refine x_ex_int ?_
  | with_reducible refine x_ex_bl ?_
  | with_reducible refine x_ex_2 ?_
  | with_reducible refine x_test ?_
  | with_reducible refine x_B ?_
  | with_reducible refine x_and ?_
  | with_reducible refine x_or ?_
  | with_reducible refine x_not ?_
  | with_reducible refine x_andV ?_
  | with_reducible refine x_orV ?_
  | with_reducible refine x_notV ?_
  | with_reducible refine x_ifE ?_
  | with_reducible refine x_iteT ?_
  | with_reducible refine x_iteF ?_
  | ((with_reducible refine x_iteD ?_ ?_) <;> intro _)
  | ((with_reducible refine x_iteN ?_ ?_) <;> intro _)
  | with_reducible refine x_if ?_
  | with_reducible refine x_seq ?_
  | with_reducible refine x_next ?_
  | with_reducible refine x_asg ?_
  | with_reducible refine x_gName ?_
  | ((with_reducible refine' x_gTup ?hq ?hn ?_); (case hq => walk_at "hk"); (case hn => exact rfl))
  | with_reducible refine x_gCons ?_
  | with_reducible refine x_gNil ?_
  | ((with_reducible refine' x_gConsE ?h ?_); (case h => exact rfl))
  | ((with_reducible refine x_gNilE ?h ?_); (case h => exact rfl))
  | with_reducible refine x_ret ?_
  | with_reducible refine x_drop ?_
  | with_reducible refine x_par ?_
  | ((with_reducible refine' x_aug ?hx ?_); (case hx => exact rfl))
  | with_reducible refine x_ipI ?_
  | with_reducible refine x_augS ?_
  | with_reducible refine x_gSub ?_
  | ((with_reducible refine' x_setL ?hq ?hi ?_); (case hq => walk_at "hk"); (case hi => first | exact rfl | assumption))
  | with_reducible refine x_cons ?_
  | with_reducible refine x_nil ?_
  | with_reducible refine x_CB ?_
  | with_reducible refine x_abs ?_
  | with_reducible refine x_intI ?_
  | with_reducible refine x_intB ?_
  | ((with_reducible refine' x_lenL ?hq ?_); (case hq => walk_at "hk"))
  | ((with_reducible refine' x_lenT ?hq ?_); (case hq => walk_at "hk"))
  | ((with_reducible refine x_iteTe ?h ?_); (case h => exact rfl))
  | ((with_reducible refine x_iteFe ?h ?_); (case h => exact rfl))
  | walk_at "use"
  | with_reducible refine x_callS ?_
  | ((with_reducible refine x_lc ?_))
  | ((with_reducible refine x_for ?_))
  | ((with_reducible refine x_iR1 ?_))
  | ((with_reducible refine x_iL ?_))
  | ((with_reducible refine x_iZ ?_))
  | ((with_reducible refine x_yes ?_))
  | ((with_reducible refine' x_NIDt ?hq ?_); (case hq => assumption))
  | ((with_reducible refine' x_NIDf ?hq ?_); (case hq => assumption))
  | ((with_reducible refine' x_IIDf ?hq ?_); (case hq => assumption))
  | ((with_reducible refine' x_IIDt ?hq ?_); (case hq => assumption))
  | ((with_reducible refine' x_ixDs ?hd ?hq ?_); (case hd => assumption); (case hq => assumption))
  | ((with_reducible refine x_InSt ?h ?_); (case h => decide +kernel))
  | ((with_reducible refine x_InSf ?h ?_); (case h => decide +kernel))
  | ((with_reducible refine' x_notInI ?hq ?_); (case hq => walk_at "hk"))
  | ((with_reducible refine' x_inTt ?hq ?hv ?ha ?he ?_); (case hq => walk_at "hk"); (case hv => exact rfl); (case ha => exact rfl); (case he => decide +kernel))
  | ((with_reducible refine' x_inTf ?hq ?hv ?ha ?he ?_); (case hq => walk_at "hk"); (case hv => exact rfl); (case ha => exact rfl); (case he => decide +kernel))
  | ((with_reducible refine' x_slT ?hq ?hw ?_); (case hq => walk_at "hk"); (case hw => with_unfolding_all exact of_decide_eq_true rfl))
  | ((with_reducible refine' x_slL ?hq ?_); (case hq => walk_at "hk"))
  | ((with_reducible refine' x_catT ?hq ?hr ?n1 ?n2 ?hl ?_); (case hq => walk_at "hk"); (case hr => walk_at "hk"); (case n1 => exact List.cons_ne_nil _ _); (case n2 => exact List.cons_ne_nil _ _); (case hl => exact Nat.le_of_ble_eq_true rfl))
  | ((with_reducible refine x_bm ?_))
  | ((with_reducible refine x_lstRg ?_))
  | ((with_reducible refine x_rg1 ?_))
  | ((with_reducible refine And.intro ?h ?_); (case h => exact tyL (by assumption)))
  | dsimp only)
local macro_rules | `(tactic| walk_at "use") => `(tactic| fail)
local macro_rules | `(tactic| walk_at "rd") => `(tactic| repeat' (walk_at "rd1"))
local macro_rules | `(tactic| walk_at "ex") => `(tactic| first | exact Ex.refl _ | assumption | (refine' Ex.trans ?he (by assumption); (case he => walk_at "ex")))
local macro_rules | `(tactic| walk_at "rd1") => `(tactic| first
  | ((with_reducible refine x_iteDf ?h ?_); (case h => exact rfl))
  | ((with_reducible refine x_iteDt ?h ?_); (case h => exact rfl))
  | ((with_reducible refine x_iteNf ?h ?_); (case h => exact rfl))
  | ((with_reducible refine x_iteNt ?h ?_); (case h => exact rfl))
  | ((with_reducible refine x_isiI (r := true) ?h ?_); (case h => decide +kernel))
  | ((with_reducible refine x_isiI (r := false) ?h ?_); (case h => decide +kernel))
  | ((with_reducible refine x_isiS (r := true) ?h ?_); (case h => decide +kernel))
  | ((with_reducible refine x_isiS (r := false) ?h ?_); (case h => decide +kernel))
  | ((with_reducible refine x_isiB (r := true) ?h ?_); (case h => decide +kernel))
  | ((with_reducible refine x_isiB (r := false) ?h ?_); (case h => decide +kernel))
  | ((with_reducible refine' x_isiT (r := true) ?hp ?h ?_); (case hp => walk_at "hk"); (case h => decide +kernel))
  | ((with_reducible refine' x_isiT (r := false) ?hp ?h ?_); (case hp => walk_at "hk"); (case h => decide +kernel))
  | ((with_reducible refine' x_isiL (r := true) ?hp ?h ?_); (case hp => walk_at "hk"); (case h => decide +kernel))
  | ((with_reducible refine' x_isiL (r := false) ?hp ?h ?_); (case hp => walk_at "hk"); (case h => decide +kernel))
  | ((with_reducible refine' x_isi2L ?hp ?hl ?_); (case hp => walk_at "hk"); (case hl => walk_at "hk"))
  | ((with_reducible refine' x_isi2T ?hp ?hl ?_); (case hp => walk_at "hk"); (case hl => walk_at "hk"))
  | ((with_reducible refine' x_tupOfL ?hq ?_); (case hq => walk_at "hk"))
  | ((with_reducible refine' x_tupOfT ?hq ?_); (case hq => walk_at "hk"))
  | ((with_reducible refine x_lenS ?h ?_); (case h => exact Nat.le_of_ble_eq_true rfl))
  | ((with_reducible refine' x_all ?hq ?_); (case hq => walk_at "hk"))
  | with_reducible refine x_lenSet ?_)
local macro_rules | `(tactic| walk_at "nb") => `(tactic| first | exact NB.xd | exact NB.dK)
local macro_rules | `(tactic| walk_at "rd1") => `(tactic| first
  | with_reducible refine Er.x_par3 ?_
  | with_reducible refine Er.x_ex_3 ?_
  | with_reducible refine Er.x_revL0 ?_
  | ((with_reducible refine' Er.x_revL ?hq ?_); (case hq => walk_at "hk"))
  | with_reducible refine Er.x_dget2 ?_
  | with_reducible refine x_dict0 ?_
  | ((with_reducible refine x_pow ?hc ?_); (case hc => exact ⟨by decide, by decide, by decide⟩))
  | ((with_reducible refine And.intro ?h ?_); (case h => exact tyL (by walk_at "hk")))
  | ((with_reducible refine' Er.x_dis ?hq ?_); (case hq => walk_at "hk"))
  | ((with_reducible refine' Er.x_dgo ?hq ?he ?_); (case hq => walk_at "hk"); (case he => exact rfl)))
local macro_rules | `(tactic| walk_at "rd1") => `(tactic| first
  | with_reducible refine Er.x_iR2 ?_
  | with_reducible refine Er.x_iEn ?_
  | with_reducible refine Er.x_cont ?_
  | ((with_reducible refine Er.x_isBt ?h ?_); (case h => exact rfl))
  | ((with_reducible refine Er.x_isBf ?h ?_); (case h => exact rfl))
  | ((with_reducible refine Er.x_isNBt ?h ?_); (case h => exact rfl))
  | ((with_reducible refine Er.x_isNBf ?h ?_); (case h => exact rfl))
  | with_reducible refine Er.x_isB ?_
  | with_reducible refine Er.x_isNB ?_)

theorem all_mk {l : PySem.W.OpenLaw} {w : World} {K : PySem.W.Frag} {h : Heap} {mg : Str → Option Value} {fa : Addr} (X : K.In h) (G : h.Ns mainGlobals mg) (hfa : mg "law" = some (.ref fa))
    {C_Script : Addr}
    {p_Script_files : Addr} {r_Script_files : List Value}
    {C_Line : Addr}
    {f_is_integer : Addr} {od_is_integer an_is_integer : Option Addr} {sl_is_integer : Array (Option Value)} {oc_is_integer kV_is_integer dc_is_integer pm_is_integer cd_is_integer ct_is_integer : Value}
    {f_is_files : Addr} {od_is_files an_is_files : Option Addr} {sl_is_files : Array (Option Value)} {oc_is_files kV_is_files dc_is_files pm_is_files cd_is_files ct_is_files : Value}
    {f_is_rows : Addr} {od_is_rows an_is_rows : Option Addr} {sl_is_rows : Array (Option Value)} {oc_is_rows kV_is_rows dc_is_rows pm_is_rows cd_is_rows ct_is_rows : Value}
    {f_is_index : Addr} {od_is_index an_is_index : Option Addr} {sl_is_index : Array (Option Value)} {oc_is_index kV_is_index dc_is_index pm_is_index cd_is_index ct_is_index : Value}
    {f_is_part : Addr} {od_is_part an_is_part : Option Addr} {sl_is_part : Array (Option Value)} {oc_is_part kV_is_part dc_is_part pm_is_part cd_is_part ct_is_part : Value}
    {f_is_call : Addr} {od_is_call an_is_call : Option Addr} {sl_is_call : Array (Option Value)} {oc_is_call kV_is_call dc_is_call pm_is_call cd_is_call ct_is_call : Value}
    {f_is_straight : Addr} {od_is_straight an_is_straight : Option Addr} {sl_is_straight : Array (Option Value)} {oc_is_straight kV_is_straight dc_is_straight pm_is_straight cd_is_straight ct_is_straight : Value}
    {f_turned : Addr} {od_turned an_turned : Option Addr} {sl_turned : Array (Option Value)} {oc_turned kV_turned dc_turned pm_turned cd_turned ct_turned : Value}
    {f_files_of : Addr} {od_files_of an_files_of : Option Addr} {sl_files_of : Array (Option Value)} {oc_files_of kV_files_of dc_files_of pm_files_of cd_files_of ct_files_of : Value}
    {f_moved_by : Addr} {od_moved_by an_moved_by : Option Addr} {sl_moved_by : Array (Option Value)} {oc_moved_by kV_moved_by dc_moved_by pm_moved_by cd_moved_by ct_moved_by : Value}
    {f_cut_of : Addr} {od_cut_of an_cut_of : Option Addr} {sl_cut_of : Array (Option Value)} {oc_cut_of kV_cut_of dc_cut_of pm_cut_of cd_cut_of ct_cut_of : Value}
    {f_whole : Addr} {od_whole an_whole : Option Addr} {sl_whole : Array (Option Value)} {oc_whole kV_whole dc_whole pm_whole cd_whole ct_whole : Value}
    {f_cut_of_up : Addr} {od_cut_of_up an_cut_of_up : Option Addr} {sl_cut_of_up : Array (Option Value)} {oc_cut_of_up kV_cut_of_up dc_cut_of_up pm_cut_of_up cd_cut_of_up ct_cut_of_up : Value}
    {f_cut_of_wheel : Addr} {od_cut_of_wheel an_cut_of_wheel : Option Addr} {sl_cut_of_wheel : Array (Option Value)} {oc_cut_of_wheel kV_cut_of_wheel dc_cut_of_wheel pm_cut_of_wheel cd_cut_of_wheel ct_cut_of_wheel : Value}
    {f_moved_by_open_call : Addr} {od_moved_by_open_call an_moved_by_open_call : Option Addr} {sl_moved_by_open_call : Array (Option Value)} {oc_moved_by_open_call kV_moved_by_open_call dc_moved_by_open_call pm_moved_by_open_call cd_moved_by_open_call ct_moved_by_open_call : Value}
    {f_is_place : Addr} {od_is_place an_is_place : Option Addr} {sl_is_place : Array (Option Value)} {oc_is_place kV_is_place dc_is_place pm_is_place cd_is_place ct_is_place : Value}
    {f_number_of : Addr} {od_number_of an_number_of : Option Addr} {sl_number_of : Array (Option Value)} {oc_number_of kV_number_of dc_number_of pm_number_of cd_number_of ct_number_of : Value}
    {f_place_of : Addr} {od_place_of an_place_of : Option Addr} {sl_place_of : Array (Option Value)} {oc_place_of kV_place_of dc_place_of pm_place_of cd_place_of ct_place_of : Value}
    {f_moved : Addr} {od_moved an_moved : Option Addr} {sl_moved : Array (Option Value)} {oc_moved kV_moved dc_moved pm_moved cd_moved ct_moved : Value}
    {f_passed : Addr} {od_passed an_passed : Option Addr} {sl_passed : Array (Option Value)} {oc_passed kV_passed dc_passed pm_passed cd_passed ct_passed : Value}
    {f_behind_all : Addr} {od_behind_all an_behind_all : Option Addr} {sl_behind_all : Array (Option Value)} {oc_behind_all kV_behind_all dc_behind_all pm_behind_all cd_behind_all ct_behind_all : Value}
    {f_behind_up : Addr} {od_behind_up an_behind_up : Option Addr} {sl_behind_up : Array (Option Value)} {oc_behind_up kV_behind_up dc_behind_up pm_behind_up cd_behind_up ct_behind_up : Value}
    {f_behind_swap : Addr} {od_behind_swap an_behind_swap : Option Addr} {sl_behind_swap : Array (Option Value)} {oc_behind_swap kV_behind_swap dc_behind_swap pm_behind_swap cd_behind_swap ct_behind_swap : Value}
    {f_behind_wheel : Addr} {od_behind_wheel an_behind_wheel : Option Addr} {sl_behind_wheel : Array (Option Value)} {oc_behind_wheel kV_behind_wheel dc_behind_wheel pm_behind_wheel cd_behind_wheel ct_behind_wheel : Value}
    {f_behind_about : Addr} {od_behind_about an_behind_about : Option Addr} {sl_behind_about : Array (Option Value)} {oc_behind_about kV_behind_about dc_behind_about pm_behind_about cd_behind_about ct_behind_about : Value}
    {f_behind_front : Addr} {od_behind_front an_behind_front : Option Addr} {sl_behind_front : Array (Option Value)} {oc_behind_front kV_behind_front dc_behind_front pm_behind_front cd_behind_front ct_behind_front : Value}
    {f_behind_halve : Addr} {od_behind_halve an_behind_halve : Option Addr} {sl_behind_halve : Array (Option Value)} {oc_behind_halve kV_behind_halve dc_behind_halve pm_behind_halve cd_behind_halve ct_behind_halve : Value}
    {f_behind_pair : Addr} {od_behind_pair an_behind_pair : Option Addr} {sl_behind_pair : Array (Option Value)} {oc_behind_pair kV_behind_pair dc_behind_pair pm_behind_pair cd_behind_pair ct_behind_pair : Value}
    {f_behind_others : Addr} {od_behind_others an_behind_others : Option Addr} {sl_behind_others : Array (Option Value)} {oc_behind_others kV_behind_others dc_behind_others pm_behind_others cd_behind_others ct_behind_others : Value}
    {f_behind_fill : Addr} {od_behind_fill an_behind_fill : Option Addr} {sl_behind_fill : Array (Option Value)} {oc_behind_fill kV_behind_fill dc_behind_fill pm_behind_fill cd_behind_fill ct_behind_fill : Value}
    {f_columns_led : Addr} {od_columns_led an_columns_led : Option Addr} {sl_columns_led : Array (Option Value)} {oc_columns_led kV_columns_led dc_columns_led pm_columns_led cd_columns_led ct_columns_led : Value}
    {f_columns_of : Addr} {od_columns_of an_columns_of : Option Addr} {sl_columns_of : Array (Option Value)} {oc_columns_of kV_columns_of dc_columns_of pm_columns_of cd_columns_of ct_columns_of : Value}
    {f_order_of : Addr} {od_order_of an_order_of : Option Addr} {sl_order_of : Array (Option Value)} {oc_order_of kV_order_of dc_order_of pm_order_of cd_order_of ct_order_of : Value}
    {f_first_columns : Addr} {od_first_columns an_first_columns : Option Addr} {sl_first_columns : Array (Option Value)} {oc_first_columns kV_first_columns dc_first_columns pm_first_columns cd_first_columns ct_first_columns : Value}
    {f_order_behind : Addr} {od_order_behind an_order_behind : Option Addr} {sl_order_behind : Array (Option Value)} {oc_order_behind kV_order_behind dc_order_behind pm_order_behind cd_order_behind ct_order_behind : Value}
    {f_moves_of : Addr} {od_moves_of an_moves_of : Option Addr} {sl_moves_of : Array (Option Value)} {oc_moves_of kV_moves_of dc_moves_of pm_moves_of cd_moves_of ct_moves_of : Value}
    {f_followed : Addr} {od_followed an_followed : Option Addr} {sl_followed : Array (Option Value)} {oc_followed kV_followed dc_followed pm_followed cd_followed ct_followed : Value}
    {f_repeated : Addr} {od_repeated an_repeated : Option Addr} {sl_repeated : Array (Option Value)} {oc_repeated kV_repeated dc_repeated pm_repeated cd_repeated ct_repeated : Value}
    {f_rearranged : Addr} {od_rearranged an_rearranged : Option Addr} {sl_rearranged : Array (Option Value)} {oc_rearranged kV_rearranged dc_rearranged pm_rearranged cd_rearranged ct_rearranged : Value}
    {f_Lbag : Addr} {od_Lbag an_Lbag : Option Addr} {sl_Lbag : Array (Option Value)} {oc_Lbag kV_Lbag dc_Lbag pm_Lbag cd_Lbag ct_Lbag : Value}
    {f_Ltake : Addr} {od_Ltake an_Ltake : Option Addr} {sl_Ltake : Array (Option Value)} {oc_Ltake kV_Ltake dc_Ltake pm_Ltake cd_Ltake ct_Ltake : Value}
    {f_Lone : Addr} {od_Lone an_Lone : Option Addr} {sl_Lone : Array (Option Value)} {oc_Lone kV_Lone dc_Lone pm_Lone cd_Lone ct_Lone : Value}
    {f_Lmixed : Addr} {od_Lmixed an_Lmixed : Option Addr} {sl_Lmixed : Array (Option Value)} {oc_Lmixed kV_Lmixed dc_Lmixed pm_Lmixed cd_Lmixed ct_Lmixed : Value}
    {f_Lnumber : Addr} {od_Lnumber an_Lnumber : Option Addr} {sl_Lnumber : Array (Option Value)} {oc_Lnumber kV_Lnumber dc_Lnumber pm_Lnumber cd_Lnumber ct_Lnumber : Value}
    {f_Ltwo : Addr} {od_Ltwo an_Ltwo : Option Addr} {sl_Ltwo : Array (Option Value)} {oc_Ltwo kV_Ltwo dc_Ltwo pm_Ltwo cd_Ltwo ct_Ltwo : Value}
    {f_Lcall : Addr} {od_Lcall an_Lcall : Option Addr} {sl_Lcall : Array (Option Value)} {oc_Lcall kV_Lcall dc_Lcall pm_Lcall cd_Lcall ct_Lcall : Value}
    {f_Lall_kinds : Addr} {od_Lall_kinds an_Lall_kinds : Option Addr} {sl_Lall_kinds : Array (Option Value)} {oc_Lall_kinds kV_Lall_kinds dc_Lall_kinds pm_Lall_kinds cd_Lall_kinds ct_Lall_kinds : Value}
    {f_Lcalls : Addr} {od_Lcalls an_Lcalls : Option Addr} {sl_Lcalls : Array (Option Value)} {oc_Lcalls kV_Lcalls dc_Lcalls pm_Lcalls cd_Lcalls ct_Lcalls : Value}
    {f_Lbegun : Addr} {od_Lbegun an_Lbegun : Option Addr} {sl_Lbegun : Array (Option Value)} {oc_Lbegun kV_Lbegun dc_Lbegun pm_Lbegun cd_Lbegun ct_Lbegun : Value}
    {f_Lbehind : Addr} {od_Lbehind an_Lbehind : Option Addr} {sl_Lbehind : Array (Option Value)} {oc_Lbehind kV_Lbehind dc_Lbehind pm_Lbehind cd_Lbehind ct_Lbehind : Value}
    {f_Lplaces_right : Addr} {od_Lplaces_right an_Lplaces_right : Option Addr} {sl_Lplaces_right : Array (Option Value)} {oc_Lplaces_right kV_Lplaces_right dc_Lplaces_right pm_Lplaces_right cd_Lplaces_right ct_Lplaces_right : Value}
    {f_law : Addr} {od_law an_law : Option Addr} {sl_law : Array (Option Value)} {oc_law kV_law dc_law pm_law cd_law ct_law : Value}
    {f_Script_init : Addr} {od_Script_init an_Script_init : Option Addr} {sl_Script_init : Array (Option Value)} {oc_Script_init kV_Script_init dc_Script_init pm_Script_init cd_Script_init ct_Script_init : Value}
    {f_Script_len : Addr} {od_Script_len an_Script_len : Option Addr} {sl_Script_len : Array (Option Value)} {oc_Script_len kV_Script_len dc_Script_len pm_Script_len cd_Script_len ct_Script_len : Value}
    {f_Script_iter : Addr} {od_Script_iter an_Script_iter : Option Addr} {sl_Script_iter : Array (Option Value)} {oc_Script_iter kV_Script_iter dc_Script_iter pm_Script_iter cd_Script_iter ct_Script_iter : Value}
    {f_Script_mul : Addr} {od_Script_mul an_Script_mul : Option Addr} {sl_Script_mul : Array (Option Value)} {oc_Script_mul kV_Script_mul dc_Script_mul pm_Script_mul cd_Script_mul ct_Script_mul : Value}
    {f_Script_invert : Addr} {od_Script_invert an_Script_invert : Option Addr} {sl_Script_invert : Array (Option Value)} {oc_Script_invert kV_Script_invert dc_Script_invert pm_Script_invert cd_Script_invert ct_Script_invert : Value}
    {f_Script_files : Addr} {od_Script_files an_Script_files : Option Addr} {sl_Script_files : Array (Option Value)} {oc_Script_files kV_Script_files dc_Script_files pm_Script_files cd_Script_files ct_Script_files : Value}
    {f_Script_calls : Addr} {od_Script_calls an_Script_calls : Option Addr} {sl_Script_calls : Array (Option Value)} {oc_Script_calls kV_Script_calls dc_Script_calls pm_Script_calls cd_Script_calls ct_Script_calls : Value}
    {f_Script_times : Addr} {od_Script_times an_Script_times : Option Addr} {sl_Script_times : Array (Option Value)} {oc_Script_times kV_Script_times dc_Script_times pm_Script_times cd_Script_times ct_Script_times : Value}
    {f_Line_init : Addr} {od_Line_init an_Line_init : Option Addr} {sl_Line_init : Array (Option Value)} {oc_Line_init kV_Line_init dc_Line_init pm_Line_init cd_Line_init ct_Line_init : Value}
    {f_Line_eq : Addr} {od_Line_eq an_Line_eq : Option Addr} {sl_Line_eq : Array (Option Value)} {oc_Line_eq kV_Line_eq dc_Line_eq pm_Line_eq cd_Line_eq ct_Line_eq : Value}
    {f_Line_order : Addr} {od_Line_order an_Line_order : Option Addr} {sl_Line_order : Array (Option Value)} {oc_Line_order kV_Line_order dc_Line_order pm_Line_order cd_Line_order ct_Line_order : Value}
    {f_Line_do : Addr} {od_Line_do an_Line_do : Option Addr} {sl_Line_do : Array (Option Value)} {oc_Line_do kV_Line_do dc_Line_do pm_Line_do cd_Line_do ct_Line_do : Value}
    {f_Line_go : Addr} {od_Line_go an_Line_go : Option Addr} {sl_Line_go : Array (Option Value)} {oc_Line_go kV_Line_go dc_Line_go pm_Line_go cd_Line_go ct_Line_go : Value}
    {f_Line_copied : Addr} {od_Line_copied an_Line_copied : Option Addr} {sl_Line_copied : Array (Option Value)} {oc_Line_copied kV_Line_copied dc_Line_copied pm_Line_copied cd_Line_copied ct_Line_copied : Value}
    {q_PARTS : Addr} {qe_PARTS : Array DictEntry} {qn_PARTS : Nat}
    {t_PARTS_all : Tok}
    {t_PARTS_up : Tok}
    {t_PARTS_swap : Tok}
    {t_PARTS_wheel : Tok}
    {t_PARTS_about : Tok}
    {t_PARTS_front : Tok}
    {t_PARTS_halve : Tok}
    {t_PARTS_pair : Tok}
    {t_PARTS_others : Tok}
    {t_PARTS_fill : Tok}
    {q_UNDOING : Addr} {qe_UNDOING : Array DictEntry} {qn_UNDOING : Nat}
    {t_UNDOING_halve : Tok}
    {t_UNDOING_pair : Tok}
    {t_UNDOING_others : Tok}
    {t_UNDOING_fill : Tok}
    {q_ACTIONS : Addr} {qe_ACTIONS : Array DictEntry} {qn_ACTIONS : Nat}
    {ti_MOST_ROWS : Tok}
    (g_Script : PySem.W.nsIn K mainGlobals "Script" = some (some (.ref C_Script)))
    (pg_Script : PySem.W.plainGet K C_Script Str.empty = true)
    (hd_Script : PySem.W.hasDictIn K C_Script = true)
    (po_Script : PySem.W.plainOver K C_Script = true)
    (sa_Script : PySem.W.findIn K (.ref C_Script) "__setattr__" = some (some (.builtin "object.__setattr__")))
    (ha_Script : PySem.W.findIn K (.ref C_Script) "__class__" = some (some (.builtin "object.__class__")))
    (hm_Script : PySem.W.mroIn K C_Script (.type "object") = some true)
    (mk_Script : PySem.W.makesIn K C_Script = true)
    (kc_Script : PySem.W.keepIn K (.ref C_Script) = true)
    (kI_Script : PySem.W.kitOne K (.ref C_Script) (.type "int") = some false)
    (kB_Script : PySem.W.kitOne K (.ref C_Script) (.type "bool") = some false)
    (kT_Script : PySem.W.kitOne K (.ref C_Script) (.type "tuple") = some false)
    (kL_Script : PySem.W.kitOne K (.ref C_Script) (.type "list") = some false)
    (kD_Script : PySem.W.kitOne K (.ref C_Script) (.type "dict") = some false)
    (kS_Script : PySem.W.kitOne K (.ref C_Script) (.type "str") = some false)
    (kO_Script : PySem.W.kitOne K (.ref C_Script) (.ref C_Script) = some true)
    (bI_Script : PySem.W.kitOne K (.type "int") (.ref C_Script) = some false)
    (bL_Script : PySem.W.kitOne K (.type "list") (.ref C_Script) = some false)
    (bT_Script : PySem.W.kitOne K (.type "tuple") (.ref C_Script) = some false)
    (ne_Script : PySem.W.findIn K (.ref C_Script) "__ne__" = some (some (.builtin "object.__ne__")))
    (nI_Script : PySem.W.notFirst K C_Script (.type "int") = true)
    (nL_Script : PySem.W.notFirst K C_Script (.type "list") = true)
    (nT_Script : PySem.W.notFirst K C_Script (.type "tuple") = true)
    (sf_Script : PySem.W.selfFirst K C_Script = true)
    (A_Script_width : PySem.W.findIn K (.ref C_Script) "width" = some none)
    (A_Script_held : PySem.W.findIn K (.ref C_Script) "held" = some none)
    (g_Line : PySem.W.nsIn K mainGlobals "Line" = some (some (.ref C_Line)))
    (pg_Line : PySem.W.plainGet K C_Line Str.empty = true)
    (hd_Line : PySem.W.hasDictIn K C_Line = true)
    (po_Line : PySem.W.plainOver K C_Line = true)
    (sa_Line : PySem.W.findIn K (.ref C_Line) "__setattr__" = some (some (.builtin "object.__setattr__")))
    (ha_Line : PySem.W.findIn K (.ref C_Line) "__class__" = some (some (.builtin "object.__class__")))
    (hm_Line : PySem.W.mroIn K C_Line (.type "object") = some true)
    (mk_Line : PySem.W.makesIn K C_Line = true)
    (kc_Line : PySem.W.keepIn K (.ref C_Line) = true)
    (kI_Line : PySem.W.kitOne K (.ref C_Line) (.type "int") = some false)
    (kB_Line : PySem.W.kitOne K (.ref C_Line) (.type "bool") = some false)
    (kT_Line : PySem.W.kitOne K (.ref C_Line) (.type "tuple") = some false)
    (kL_Line : PySem.W.kitOne K (.ref C_Line) (.type "list") = some false)
    (kD_Line : PySem.W.kitOne K (.ref C_Line) (.type "dict") = some false)
    (kS_Line : PySem.W.kitOne K (.ref C_Line) (.type "str") = some false)
    (kO_Line : PySem.W.kitOne K (.ref C_Line) (.ref C_Line) = some true)
    (bI_Line : PySem.W.kitOne K (.type "int") (.ref C_Line) = some false)
    (bL_Line : PySem.W.kitOne K (.type "list") (.ref C_Line) = some false)
    (bT_Line : PySem.W.kitOne K (.type "tuple") (.ref C_Line) = some false)
    (ne_Line : PySem.W.findIn K (.ref C_Line) "__ne__" = some (some (.builtin "object.__ne__")))
    (nI_Line : PySem.W.notFirst K C_Line (.type "int") = true)
    (nL_Line : PySem.W.notFirst K C_Line (.type "list") = true)
    (nT_Line : PySem.W.notFirst K C_Line (.type "tuple") = true)
    (A_Line_width : PySem.W.findIn K (.ref C_Line) "width" = some none)
    (A_Line_depth : PySem.W.findIn K (.ref C_Line) "depth" = some none)
    (A_Line_standing : PySem.W.findIn K (.ref C_Line) "standing" = some none)
    (hgt : PySem.W.specialIn K (.builtin "object.__class__") "__get__" = some (some (.builtin "getset_descriptor.__get__")))
    (htk : PySem.W.takesIn K (.builtin "object.__class__") = some true)
    (a_is_integer : PySem.W.nsIn K mainGlobals "is_integer" = some (some (.ref f_is_integer)))
    (l_is_integer : K.lookup f_is_integer = some ⟨oc_is_integer, od_is_integer, .func (PySem.W.fnOf "is_integer" "is_integer" (defArgs s_is_integer) (defBody s_is_integer) (defScope s_is_integer) .none kV_is_integer dc_is_integer pm_is_integer an_is_integer cd_is_integer ct_is_integer), sl_is_integer⟩)
    (c_is_integer : PySem.W.codeIn K cd_is_integer "is_integer" = true)
    (k_is_integer : PySem.W.keepIn K (.ref f_is_integer) = true)
    (a_is_files : PySem.W.nsIn K mainGlobals "is_files" = some (some (.ref f_is_files)))
    (l_is_files : K.lookup f_is_files = some ⟨oc_is_files, od_is_files, .func (PySem.W.fnOf "is_files" "is_files" (defArgs s_is_files) (defBody s_is_files) (defScope s_is_files) .none kV_is_files dc_is_files pm_is_files an_is_files cd_is_files ct_is_files), sl_is_files⟩)
    (c_is_files : PySem.W.codeIn K cd_is_files "is_files" = true)
    (k_is_files : PySem.W.keepIn K (.ref f_is_files) = true)
    (a_is_rows : PySem.W.nsIn K mainGlobals "is_rows" = some (some (.ref f_is_rows)))
    (l_is_rows : K.lookup f_is_rows = some ⟨oc_is_rows, od_is_rows, .func (PySem.W.fnOf "is_rows" "is_rows" (defArgs s_is_rows) (defBody s_is_rows) (defScope s_is_rows) .none kV_is_rows dc_is_rows pm_is_rows an_is_rows cd_is_rows ct_is_rows), sl_is_rows⟩)
    (c_is_rows : PySem.W.codeIn K cd_is_rows "is_rows" = true)
    (k_is_rows : PySem.W.keepIn K (.ref f_is_rows) = true)
    (a_is_index : PySem.W.nsIn K mainGlobals "is_index" = some (some (.ref f_is_index)))
    (l_is_index : K.lookup f_is_index = some ⟨oc_is_index, od_is_index, .func (PySem.W.fnOf "is_index" "is_index" (defArgs s_is_index) (defBody s_is_index) (defScope s_is_index) .none kV_is_index dc_is_index pm_is_index an_is_index cd_is_index ct_is_index), sl_is_index⟩)
    (c_is_index : PySem.W.codeIn K cd_is_index "is_index" = true)
    (k_is_index : PySem.W.keepIn K (.ref f_is_index) = true)
    (a_is_part : PySem.W.nsIn K mainGlobals "is_part" = some (some (.ref f_is_part)))
    (l_is_part : K.lookup f_is_part = some ⟨oc_is_part, od_is_part, .func (PySem.W.fnOf "is_part" "is_part" (defArgs s_is_part) (defBody s_is_part) (defScope s_is_part) .none kV_is_part dc_is_part pm_is_part an_is_part cd_is_part ct_is_part), sl_is_part⟩)
    (c_is_part : PySem.W.codeIn K cd_is_part "is_part" = true)
    (k_is_part : PySem.W.keepIn K (.ref f_is_part) = true)
    (a_is_call : PySem.W.nsIn K mainGlobals "is_call" = some (some (.ref f_is_call)))
    (l_is_call : K.lookup f_is_call = some ⟨oc_is_call, od_is_call, .func (PySem.W.fnOf "is_call" "is_call" (defArgs s_is_call) (defBody s_is_call) (defScope s_is_call) .none kV_is_call dc_is_call pm_is_call an_is_call cd_is_call ct_is_call), sl_is_call⟩)
    (c_is_call : PySem.W.codeIn K cd_is_call "is_call" = true)
    (k_is_call : PySem.W.keepIn K (.ref f_is_call) = true)
    (a_is_straight : PySem.W.nsIn K mainGlobals "is_straight" = some (some (.ref f_is_straight)))
    (l_is_straight : K.lookup f_is_straight = some ⟨oc_is_straight, od_is_straight, .func (PySem.W.fnOf "is_straight" "is_straight" (defArgs s_is_straight) (defBody s_is_straight) (defScope s_is_straight) .none kV_is_straight dc_is_straight pm_is_straight an_is_straight cd_is_straight ct_is_straight), sl_is_straight⟩)
    (c_is_straight : PySem.W.codeIn K cd_is_straight "is_straight" = true)
    (k_is_straight : PySem.W.keepIn K (.ref f_is_straight) = true)
    (a_turned : PySem.W.nsIn K mainGlobals "turned" = some (some (.ref f_turned)))
    (l_turned : K.lookup f_turned = some ⟨oc_turned, od_turned, .func (PySem.W.fnOf "turned" "turned" (defArgs s_turned) (defBody s_turned) (defScope s_turned) .none kV_turned dc_turned pm_turned an_turned cd_turned ct_turned), sl_turned⟩)
    (c_turned : PySem.W.codeIn K cd_turned "turned" = true)
    (k_turned : PySem.W.keepIn K (.ref f_turned) = true)
    (a_files_of : PySem.W.nsIn K mainGlobals "files_of" = some (some (.ref f_files_of)))
    (l_files_of : K.lookup f_files_of = some ⟨oc_files_of, od_files_of, .func (PySem.W.fnOf "files_of" "files_of" (defArgs s_files_of) (defBody s_files_of) (defScope s_files_of) .none kV_files_of dc_files_of pm_files_of an_files_of cd_files_of ct_files_of), sl_files_of⟩)
    (c_files_of : PySem.W.codeIn K cd_files_of "files_of" = true)
    (k_files_of : PySem.W.keepIn K (.ref f_files_of) = true)
    (a_moved_by : PySem.W.nsIn K mainGlobals "moved_by" = some (some (.ref f_moved_by)))
    (l_moved_by : K.lookup f_moved_by = some ⟨oc_moved_by, od_moved_by, .func (PySem.W.fnOf "moved_by" "moved_by" (defArgs s_moved_by) (defBody s_moved_by) (defScope s_moved_by) .none kV_moved_by dc_moved_by pm_moved_by an_moved_by cd_moved_by ct_moved_by), sl_moved_by⟩)
    (c_moved_by : PySem.W.codeIn K cd_moved_by "moved_by" = true)
    (k_moved_by : PySem.W.keepIn K (.ref f_moved_by) = true)
    (a_cut_of : PySem.W.nsIn K mainGlobals "cut_of" = some (some (.ref f_cut_of)))
    (l_cut_of : K.lookup f_cut_of = some ⟨oc_cut_of, od_cut_of, .func (PySem.W.fnOf "cut_of" "cut_of" (defArgs s_cut_of) (defBody s_cut_of) (defScope s_cut_of) .none kV_cut_of dc_cut_of pm_cut_of an_cut_of cd_cut_of ct_cut_of), sl_cut_of⟩)
    (c_cut_of : PySem.W.codeIn K cd_cut_of "cut_of" = true)
    (k_cut_of : PySem.W.keepIn K (.ref f_cut_of) = true)
    (a_whole : PySem.W.nsIn K mainGlobals "whole" = some (some (.ref f_whole)))
    (l_whole : K.lookup f_whole = some ⟨oc_whole, od_whole, .func (PySem.W.fnOf "whole" "whole" (defArgs s_whole) (defBody s_whole) (defScope s_whole) .none kV_whole dc_whole pm_whole an_whole cd_whole ct_whole), sl_whole⟩)
    (c_whole : PySem.W.codeIn K cd_whole "whole" = true)
    (k_whole : PySem.W.keepIn K (.ref f_whole) = true)
    (a_cut_of_up : PySem.W.nsIn K mainGlobals "cut_of_up" = some (some (.ref f_cut_of_up)))
    (l_cut_of_up : K.lookup f_cut_of_up = some ⟨oc_cut_of_up, od_cut_of_up, .func (PySem.W.fnOf "cut_of_up" "cut_of_up" (defArgs s_cut_of_up) (defBody s_cut_of_up) (defScope s_cut_of_up) .none kV_cut_of_up dc_cut_of_up pm_cut_of_up an_cut_of_up cd_cut_of_up ct_cut_of_up), sl_cut_of_up⟩)
    (c_cut_of_up : PySem.W.codeIn K cd_cut_of_up "cut_of_up" = true)
    (k_cut_of_up : PySem.W.keepIn K (.ref f_cut_of_up) = true)
    (a_cut_of_wheel : PySem.W.nsIn K mainGlobals "cut_of_wheel" = some (some (.ref f_cut_of_wheel)))
    (l_cut_of_wheel : K.lookup f_cut_of_wheel = some ⟨oc_cut_of_wheel, od_cut_of_wheel, .func (PySem.W.fnOf "cut_of_wheel" "cut_of_wheel" (defArgs s_cut_of_wheel) (defBody s_cut_of_wheel) (defScope s_cut_of_wheel) .none kV_cut_of_wheel dc_cut_of_wheel pm_cut_of_wheel an_cut_of_wheel cd_cut_of_wheel ct_cut_of_wheel), sl_cut_of_wheel⟩)
    (c_cut_of_wheel : PySem.W.codeIn K cd_cut_of_wheel "cut_of_wheel" = true)
    (k_cut_of_wheel : PySem.W.keepIn K (.ref f_cut_of_wheel) = true)
    (a_moved_by_open_call : PySem.W.nsIn K mainGlobals "moved_by_open_call" = some (some (.ref f_moved_by_open_call)))
    (l_moved_by_open_call : K.lookup f_moved_by_open_call = some ⟨oc_moved_by_open_call, od_moved_by_open_call, .func (PySem.W.fnOf "moved_by_open_call" "moved_by_open_call" (defArgs s_moved_by_open_call) (defBody s_moved_by_open_call) (defScope s_moved_by_open_call) .none kV_moved_by_open_call dc_moved_by_open_call pm_moved_by_open_call an_moved_by_open_call cd_moved_by_open_call ct_moved_by_open_call), sl_moved_by_open_call⟩)
    (c_moved_by_open_call : PySem.W.codeIn K cd_moved_by_open_call "moved_by_open_call" = true)
    (k_moved_by_open_call : PySem.W.keepIn K (.ref f_moved_by_open_call) = true)
    (a_is_place : PySem.W.nsIn K mainGlobals "is_place" = some (some (.ref f_is_place)))
    (l_is_place : K.lookup f_is_place = some ⟨oc_is_place, od_is_place, .func (PySem.W.fnOf "is_place" "is_place" (defArgs s_is_place) (defBody s_is_place) (defScope s_is_place) .none kV_is_place dc_is_place pm_is_place an_is_place cd_is_place ct_is_place), sl_is_place⟩)
    (c_is_place : PySem.W.codeIn K cd_is_place "is_place" = true)
    (k_is_place : PySem.W.keepIn K (.ref f_is_place) = true)
    (a_number_of : PySem.W.nsIn K mainGlobals "number_of" = some (some (.ref f_number_of)))
    (l_number_of : K.lookup f_number_of = some ⟨oc_number_of, od_number_of, .func (PySem.W.fnOf "number_of" "number_of" (defArgs s_number_of) (defBody s_number_of) (defScope s_number_of) .none kV_number_of dc_number_of pm_number_of an_number_of cd_number_of ct_number_of), sl_number_of⟩)
    (c_number_of : PySem.W.codeIn K cd_number_of "number_of" = true)
    (k_number_of : PySem.W.keepIn K (.ref f_number_of) = true)
    (a_place_of : PySem.W.nsIn K mainGlobals "place_of" = some (some (.ref f_place_of)))
    (l_place_of : K.lookup f_place_of = some ⟨oc_place_of, od_place_of, .func (PySem.W.fnOf "place_of" "place_of" (defArgs s_place_of) (defBody s_place_of) (defScope s_place_of) .none kV_place_of dc_place_of pm_place_of an_place_of cd_place_of ct_place_of), sl_place_of⟩)
    (c_place_of : PySem.W.codeIn K cd_place_of "place_of" = true)
    (k_place_of : PySem.W.keepIn K (.ref f_place_of) = true)
    (a_moved : PySem.W.nsIn K mainGlobals "moved" = some (some (.ref f_moved)))
    (l_moved : K.lookup f_moved = some ⟨oc_moved, od_moved, .func (PySem.W.fnOf "moved" "moved" (defArgs s_moved) (defBody s_moved) (defScope s_moved) .none kV_moved dc_moved pm_moved an_moved cd_moved ct_moved), sl_moved⟩)
    (c_moved : PySem.W.codeIn K cd_moved "moved" = true)
    (k_moved : PySem.W.keepIn K (.ref f_moved) = true)
    (a_passed : PySem.W.nsIn K mainGlobals "passed" = some (some (.ref f_passed)))
    (l_passed : K.lookup f_passed = some ⟨oc_passed, od_passed, .func (PySem.W.fnOf "passed" "passed" (defArgs s_passed) (defBody s_passed) (defScope s_passed) .none kV_passed dc_passed pm_passed an_passed cd_passed ct_passed), sl_passed⟩)
    (c_passed : PySem.W.codeIn K cd_passed "passed" = true)
    (k_passed : PySem.W.keepIn K (.ref f_passed) = true)
    (a_behind_all : PySem.W.nsIn K mainGlobals "behind_all" = some (some (.ref f_behind_all)))
    (l_behind_all : K.lookup f_behind_all = some ⟨oc_behind_all, od_behind_all, .func (PySem.W.fnOf "behind_all" "behind_all" (defArgs s_behind_all) (defBody s_behind_all) (defScope s_behind_all) .none kV_behind_all dc_behind_all pm_behind_all an_behind_all cd_behind_all ct_behind_all), sl_behind_all⟩)
    (c_behind_all : PySem.W.codeIn K cd_behind_all "behind_all" = true)
    (k_behind_all : PySem.W.keepIn K (.ref f_behind_all) = true)
    (a_behind_up : PySem.W.nsIn K mainGlobals "behind_up" = some (some (.ref f_behind_up)))
    (l_behind_up : K.lookup f_behind_up = some ⟨oc_behind_up, od_behind_up, .func (PySem.W.fnOf "behind_up" "behind_up" (defArgs s_behind_up) (defBody s_behind_up) (defScope s_behind_up) .none kV_behind_up dc_behind_up pm_behind_up an_behind_up cd_behind_up ct_behind_up), sl_behind_up⟩)
    (c_behind_up : PySem.W.codeIn K cd_behind_up "behind_up" = true)
    (k_behind_up : PySem.W.keepIn K (.ref f_behind_up) = true)
    (a_behind_swap : PySem.W.nsIn K mainGlobals "behind_swap" = some (some (.ref f_behind_swap)))
    (l_behind_swap : K.lookup f_behind_swap = some ⟨oc_behind_swap, od_behind_swap, .func (PySem.W.fnOf "behind_swap" "behind_swap" (defArgs s_behind_swap) (defBody s_behind_swap) (defScope s_behind_swap) .none kV_behind_swap dc_behind_swap pm_behind_swap an_behind_swap cd_behind_swap ct_behind_swap), sl_behind_swap⟩)
    (c_behind_swap : PySem.W.codeIn K cd_behind_swap "behind_swap" = true)
    (k_behind_swap : PySem.W.keepIn K (.ref f_behind_swap) = true)
    (a_behind_wheel : PySem.W.nsIn K mainGlobals "behind_wheel" = some (some (.ref f_behind_wheel)))
    (l_behind_wheel : K.lookup f_behind_wheel = some ⟨oc_behind_wheel, od_behind_wheel, .func (PySem.W.fnOf "behind_wheel" "behind_wheel" (defArgs s_behind_wheel) (defBody s_behind_wheel) (defScope s_behind_wheel) .none kV_behind_wheel dc_behind_wheel pm_behind_wheel an_behind_wheel cd_behind_wheel ct_behind_wheel), sl_behind_wheel⟩)
    (c_behind_wheel : PySem.W.codeIn K cd_behind_wheel "behind_wheel" = true)
    (k_behind_wheel : PySem.W.keepIn K (.ref f_behind_wheel) = true)
    (a_behind_about : PySem.W.nsIn K mainGlobals "behind_about" = some (some (.ref f_behind_about)))
    (l_behind_about : K.lookup f_behind_about = some ⟨oc_behind_about, od_behind_about, .func (PySem.W.fnOf "behind_about" "behind_about" (defArgs s_behind_about) (defBody s_behind_about) (defScope s_behind_about) .none kV_behind_about dc_behind_about pm_behind_about an_behind_about cd_behind_about ct_behind_about), sl_behind_about⟩)
    (c_behind_about : PySem.W.codeIn K cd_behind_about "behind_about" = true)
    (k_behind_about : PySem.W.keepIn K (.ref f_behind_about) = true)
    (a_behind_front : PySem.W.nsIn K mainGlobals "behind_front" = some (some (.ref f_behind_front)))
    (l_behind_front : K.lookup f_behind_front = some ⟨oc_behind_front, od_behind_front, .func (PySem.W.fnOf "behind_front" "behind_front" (defArgs s_behind_front) (defBody s_behind_front) (defScope s_behind_front) .none kV_behind_front dc_behind_front pm_behind_front an_behind_front cd_behind_front ct_behind_front), sl_behind_front⟩)
    (c_behind_front : PySem.W.codeIn K cd_behind_front "behind_front" = true)
    (k_behind_front : PySem.W.keepIn K (.ref f_behind_front) = true)
    (a_behind_halve : PySem.W.nsIn K mainGlobals "behind_halve" = some (some (.ref f_behind_halve)))
    (l_behind_halve : K.lookup f_behind_halve = some ⟨oc_behind_halve, od_behind_halve, .func (PySem.W.fnOf "behind_halve" "behind_halve" (defArgs s_behind_halve) (defBody s_behind_halve) (defScope s_behind_halve) .none kV_behind_halve dc_behind_halve pm_behind_halve an_behind_halve cd_behind_halve ct_behind_halve), sl_behind_halve⟩)
    (c_behind_halve : PySem.W.codeIn K cd_behind_halve "behind_halve" = true)
    (k_behind_halve : PySem.W.keepIn K (.ref f_behind_halve) = true)
    (a_behind_pair : PySem.W.nsIn K mainGlobals "behind_pair" = some (some (.ref f_behind_pair)))
    (l_behind_pair : K.lookup f_behind_pair = some ⟨oc_behind_pair, od_behind_pair, .func (PySem.W.fnOf "behind_pair" "behind_pair" (defArgs s_behind_pair) (defBody s_behind_pair) (defScope s_behind_pair) .none kV_behind_pair dc_behind_pair pm_behind_pair an_behind_pair cd_behind_pair ct_behind_pair), sl_behind_pair⟩)
    (c_behind_pair : PySem.W.codeIn K cd_behind_pair "behind_pair" = true)
    (k_behind_pair : PySem.W.keepIn K (.ref f_behind_pair) = true)
    (a_behind_others : PySem.W.nsIn K mainGlobals "behind_others" = some (some (.ref f_behind_others)))
    (l_behind_others : K.lookup f_behind_others = some ⟨oc_behind_others, od_behind_others, .func (PySem.W.fnOf "behind_others" "behind_others" (defArgs s_behind_others) (defBody s_behind_others) (defScope s_behind_others) .none kV_behind_others dc_behind_others pm_behind_others an_behind_others cd_behind_others ct_behind_others), sl_behind_others⟩)
    (c_behind_others : PySem.W.codeIn K cd_behind_others "behind_others" = true)
    (k_behind_others : PySem.W.keepIn K (.ref f_behind_others) = true)
    (a_behind_fill : PySem.W.nsIn K mainGlobals "behind_fill" = some (some (.ref f_behind_fill)))
    (l_behind_fill : K.lookup f_behind_fill = some ⟨oc_behind_fill, od_behind_fill, .func (PySem.W.fnOf "behind_fill" "behind_fill" (defArgs s_behind_fill) (defBody s_behind_fill) (defScope s_behind_fill) .none kV_behind_fill dc_behind_fill pm_behind_fill an_behind_fill cd_behind_fill ct_behind_fill), sl_behind_fill⟩)
    (c_behind_fill : PySem.W.codeIn K cd_behind_fill "behind_fill" = true)
    (k_behind_fill : PySem.W.keepIn K (.ref f_behind_fill) = true)
    (a_columns_led : PySem.W.nsIn K mainGlobals "columns_led" = some (some (.ref f_columns_led)))
    (l_columns_led : K.lookup f_columns_led = some ⟨oc_columns_led, od_columns_led, .func (PySem.W.fnOf "columns_led" "columns_led" (defArgs s_columns_led) (defBody s_columns_led) (defScope s_columns_led) .none kV_columns_led dc_columns_led pm_columns_led an_columns_led cd_columns_led ct_columns_led), sl_columns_led⟩)
    (c_columns_led : PySem.W.codeIn K cd_columns_led "columns_led" = true)
    (k_columns_led : PySem.W.keepIn K (.ref f_columns_led) = true)
    (a_columns_of : PySem.W.nsIn K mainGlobals "columns_of" = some (some (.ref f_columns_of)))
    (l_columns_of : K.lookup f_columns_of = some ⟨oc_columns_of, od_columns_of, .func (PySem.W.fnOf "columns_of" "columns_of" (defArgs s_columns_of) (defBody s_columns_of) (defScope s_columns_of) .none kV_columns_of dc_columns_of pm_columns_of an_columns_of cd_columns_of ct_columns_of), sl_columns_of⟩)
    (c_columns_of : PySem.W.codeIn K cd_columns_of "columns_of" = true)
    (k_columns_of : PySem.W.keepIn K (.ref f_columns_of) = true)
    (a_order_of : PySem.W.nsIn K mainGlobals "order_of" = some (some (.ref f_order_of)))
    (l_order_of : K.lookup f_order_of = some ⟨oc_order_of, od_order_of, .func (PySem.W.fnOf "order_of" "order_of" (defArgs s_order_of) (defBody s_order_of) (defScope s_order_of) .none kV_order_of dc_order_of pm_order_of an_order_of cd_order_of ct_order_of), sl_order_of⟩)
    (c_order_of : PySem.W.codeIn K cd_order_of "order_of" = true)
    (k_order_of : PySem.W.keepIn K (.ref f_order_of) = true)
    (a_first_columns : PySem.W.nsIn K mainGlobals "first_columns" = some (some (.ref f_first_columns)))
    (l_first_columns : K.lookup f_first_columns = some ⟨oc_first_columns, od_first_columns, .func (PySem.W.fnOf "first_columns" "first_columns" (defArgs s_first_columns) (defBody s_first_columns) (defScope s_first_columns) .none kV_first_columns dc_first_columns pm_first_columns an_first_columns cd_first_columns ct_first_columns), sl_first_columns⟩)
    (c_first_columns : PySem.W.codeIn K cd_first_columns "first_columns" = true)
    (k_first_columns : PySem.W.keepIn K (.ref f_first_columns) = true)
    (a_order_behind : PySem.W.nsIn K mainGlobals "order_behind" = some (some (.ref f_order_behind)))
    (l_order_behind : K.lookup f_order_behind = some ⟨oc_order_behind, od_order_behind, .func (PySem.W.fnOf "order_behind" "order_behind" (defArgs s_order_behind) (defBody s_order_behind) (defScope s_order_behind) .none kV_order_behind dc_order_behind pm_order_behind an_order_behind cd_order_behind ct_order_behind), sl_order_behind⟩)
    (c_order_behind : PySem.W.codeIn K cd_order_behind "order_behind" = true)
    (k_order_behind : PySem.W.keepIn K (.ref f_order_behind) = true)
    (a_moves_of : PySem.W.nsIn K mainGlobals "moves_of" = some (some (.ref f_moves_of)))
    (l_moves_of : K.lookup f_moves_of = some ⟨oc_moves_of, od_moves_of, .func (PySem.W.fnOf "moves_of" "moves_of" (defArgs s_moves_of) (defBody s_moves_of) (defScope s_moves_of) .none kV_moves_of dc_moves_of pm_moves_of an_moves_of cd_moves_of ct_moves_of), sl_moves_of⟩)
    (c_moves_of : PySem.W.codeIn K cd_moves_of "moves_of" = true)
    (k_moves_of : PySem.W.keepIn K (.ref f_moves_of) = true)
    (a_followed : PySem.W.nsIn K mainGlobals "followed" = some (some (.ref f_followed)))
    (l_followed : K.lookup f_followed = some ⟨oc_followed, od_followed, .func (PySem.W.fnOf "followed" "followed" (defArgs s_followed) (defBody s_followed) (defScope s_followed) .none kV_followed dc_followed pm_followed an_followed cd_followed ct_followed), sl_followed⟩)
    (c_followed : PySem.W.codeIn K cd_followed "followed" = true)
    (k_followed : PySem.W.keepIn K (.ref f_followed) = true)
    (a_repeated : PySem.W.nsIn K mainGlobals "repeated" = some (some (.ref f_repeated)))
    (l_repeated : K.lookup f_repeated = some ⟨oc_repeated, od_repeated, .func (PySem.W.fnOf "repeated" "repeated" (defArgs s_repeated) (defBody s_repeated) (defScope s_repeated) .none kV_repeated dc_repeated pm_repeated an_repeated cd_repeated ct_repeated), sl_repeated⟩)
    (c_repeated : PySem.W.codeIn K cd_repeated "repeated" = true)
    (k_repeated : PySem.W.keepIn K (.ref f_repeated) = true)
    (a_rearranged : PySem.W.nsIn K mainGlobals "rearranged" = some (some (.ref f_rearranged)))
    (l_rearranged : K.lookup f_rearranged = some ⟨oc_rearranged, od_rearranged, .func (PySem.W.fnOf "rearranged" "rearranged" (defArgs s_rearranged) (defBody s_rearranged) (defScope s_rearranged) .none kV_rearranged dc_rearranged pm_rearranged an_rearranged cd_rearranged ct_rearranged), sl_rearranged⟩)
    (c_rearranged : PySem.W.codeIn K cd_rearranged "rearranged" = true)
    (k_rearranged : PySem.W.keepIn K (.ref f_rearranged) = true)
    (a_Lbag : PySem.W.nsIn K mainGlobals "_law_bag" = some (some (.ref f_Lbag)))
    (l_Lbag : K.lookup f_Lbag = some ⟨oc_Lbag, od_Lbag, .func (PySem.W.fnOf "_law_bag" "_law_bag" (defArgs s_Lbag) (defBody s_Lbag) (defScope s_Lbag) .none kV_Lbag dc_Lbag pm_Lbag an_Lbag cd_Lbag ct_Lbag), sl_Lbag⟩)
    (c_Lbag : PySem.W.codeIn K cd_Lbag "_law_bag" = true)
    (k_Lbag : PySem.W.keepIn K (.ref f_Lbag) = true)
    (a_Ltake : PySem.W.nsIn K mainGlobals "_law_take" = some (some (.ref f_Ltake)))
    (l_Ltake : K.lookup f_Ltake = some ⟨oc_Ltake, od_Ltake, .func (PySem.W.fnOf "_law_take" "_law_take" (defArgs s_Ltake) (defBody s_Ltake) (defScope s_Ltake) .none kV_Ltake dc_Ltake pm_Ltake an_Ltake cd_Ltake ct_Ltake), sl_Ltake⟩)
    (c_Ltake : PySem.W.codeIn K cd_Ltake "_law_take" = true)
    (k_Ltake : PySem.W.keepIn K (.ref f_Ltake) = true)
    (a_Lone : PySem.W.nsIn K mainGlobals "_law_one" = some (some (.ref f_Lone)))
    (l_Lone : K.lookup f_Lone = some ⟨oc_Lone, od_Lone, .func (PySem.W.fnOf "_law_one" "_law_one" (defArgs s_Lone) (defBody s_Lone) (defScope s_Lone) .none kV_Lone dc_Lone pm_Lone an_Lone cd_Lone ct_Lone), sl_Lone⟩)
    (c_Lone : PySem.W.codeIn K cd_Lone "_law_one" = true)
    (k_Lone : PySem.W.keepIn K (.ref f_Lone) = true)
    (a_Lmixed : PySem.W.nsIn K mainGlobals "_law_mixed" = some (some (.ref f_Lmixed)))
    (l_Lmixed : K.lookup f_Lmixed = some ⟨oc_Lmixed, od_Lmixed, .func (PySem.W.fnOf "_law_mixed" "_law_mixed" (defArgs s_Lmixed) (defBody s_Lmixed) (defScope s_Lmixed) .none kV_Lmixed dc_Lmixed pm_Lmixed an_Lmixed cd_Lmixed ct_Lmixed), sl_Lmixed⟩)
    (c_Lmixed : PySem.W.codeIn K cd_Lmixed "_law_mixed" = true)
    (k_Lmixed : PySem.W.keepIn K (.ref f_Lmixed) = true)
    (a_Lnumber : PySem.W.nsIn K mainGlobals "_law_number" = some (some (.ref f_Lnumber)))
    (l_Lnumber : K.lookup f_Lnumber = some ⟨oc_Lnumber, od_Lnumber, .func (PySem.W.fnOf "_law_number" "_law_number" (defArgs s_Lnumber) (defBody s_Lnumber) (defScope s_Lnumber) .none kV_Lnumber dc_Lnumber pm_Lnumber an_Lnumber cd_Lnumber ct_Lnumber), sl_Lnumber⟩)
    (c_Lnumber : PySem.W.codeIn K cd_Lnumber "_law_number" = true)
    (k_Lnumber : PySem.W.keepIn K (.ref f_Lnumber) = true)
    (a_Ltwo : PySem.W.nsIn K mainGlobals "_law_two" = some (some (.ref f_Ltwo)))
    (l_Ltwo : K.lookup f_Ltwo = some ⟨oc_Ltwo, od_Ltwo, .func (PySem.W.fnOf "_law_two" "_law_two" (defArgs s_Ltwo) (defBody s_Ltwo) (defScope s_Ltwo) .none kV_Ltwo dc_Ltwo pm_Ltwo an_Ltwo cd_Ltwo ct_Ltwo), sl_Ltwo⟩)
    (c_Ltwo : PySem.W.codeIn K cd_Ltwo "_law_two" = true)
    (k_Ltwo : PySem.W.keepIn K (.ref f_Ltwo) = true)
    (a_Lcall : PySem.W.nsIn K mainGlobals "_law_call" = some (some (.ref f_Lcall)))
    (l_Lcall : K.lookup f_Lcall = some ⟨oc_Lcall, od_Lcall, .func (PySem.W.fnOf "_law_call" "_law_call" (defArgs s_Lcall) (defBody s_Lcall) (defScope s_Lcall) .none kV_Lcall dc_Lcall pm_Lcall an_Lcall cd_Lcall ct_Lcall), sl_Lcall⟩)
    (c_Lcall : PySem.W.codeIn K cd_Lcall "_law_call" = true)
    (k_Lcall : PySem.W.keepIn K (.ref f_Lcall) = true)
    (a_Lall_kinds : PySem.W.nsIn K mainGlobals "_law_all_kinds" = some (some (.ref f_Lall_kinds)))
    (l_Lall_kinds : K.lookup f_Lall_kinds = some ⟨oc_Lall_kinds, od_Lall_kinds, .func (PySem.W.fnOf "_law_all_kinds" "_law_all_kinds" (defArgs s_Lall_kinds) (defBody s_Lall_kinds) (defScope s_Lall_kinds) .none kV_Lall_kinds dc_Lall_kinds pm_Lall_kinds an_Lall_kinds cd_Lall_kinds ct_Lall_kinds), sl_Lall_kinds⟩)
    (c_Lall_kinds : PySem.W.codeIn K cd_Lall_kinds "_law_all_kinds" = true)
    (k_Lall_kinds : PySem.W.keepIn K (.ref f_Lall_kinds) = true)
    (a_Lcalls : PySem.W.nsIn K mainGlobals "_law_calls" = some (some (.ref f_Lcalls)))
    (l_Lcalls : K.lookup f_Lcalls = some ⟨oc_Lcalls, od_Lcalls, .func (PySem.W.fnOf "_law_calls" "_law_calls" (defArgs s_Lcalls) (defBody s_Lcalls) (defScope s_Lcalls) .none kV_Lcalls dc_Lcalls pm_Lcalls an_Lcalls cd_Lcalls ct_Lcalls), sl_Lcalls⟩)
    (c_Lcalls : PySem.W.codeIn K cd_Lcalls "_law_calls" = true)
    (k_Lcalls : PySem.W.keepIn K (.ref f_Lcalls) = true)
    (a_Lbegun : PySem.W.nsIn K mainGlobals "_law_begun" = some (some (.ref f_Lbegun)))
    (l_Lbegun : K.lookup f_Lbegun = some ⟨oc_Lbegun, od_Lbegun, .func (PySem.W.fnOf "_law_begun" "_law_begun" (defArgs s_Lbegun) (defBody s_Lbegun) (defScope s_Lbegun) .none kV_Lbegun dc_Lbegun pm_Lbegun an_Lbegun cd_Lbegun ct_Lbegun), sl_Lbegun⟩)
    (c_Lbegun : PySem.W.codeIn K cd_Lbegun "_law_begun" = true)
    (k_Lbegun : PySem.W.keepIn K (.ref f_Lbegun) = true)
    (a_Lbehind : PySem.W.nsIn K mainGlobals "_law_behind" = some (some (.ref f_Lbehind)))
    (l_Lbehind : K.lookup f_Lbehind = some ⟨oc_Lbehind, od_Lbehind, .func (PySem.W.fnOf "_law_behind" "_law_behind" (defArgs s_Lbehind) (defBody s_Lbehind) (defScope s_Lbehind) .none kV_Lbehind dc_Lbehind pm_Lbehind an_Lbehind cd_Lbehind ct_Lbehind), sl_Lbehind⟩)
    (c_Lbehind : PySem.W.codeIn K cd_Lbehind "_law_behind" = true)
    (k_Lbehind : PySem.W.keepIn K (.ref f_Lbehind) = true)
    (a_Lplaces_right : PySem.W.nsIn K mainGlobals "_law_places_right" = some (some (.ref f_Lplaces_right)))
    (l_Lplaces_right : K.lookup f_Lplaces_right = some ⟨oc_Lplaces_right, od_Lplaces_right, .func (PySem.W.fnOf "_law_places_right" "_law_places_right" (defArgs s_Lplaces_right) (defBody s_Lplaces_right) (defScope s_Lplaces_right) .none kV_Lplaces_right dc_Lplaces_right pm_Lplaces_right an_Lplaces_right cd_Lplaces_right ct_Lplaces_right), sl_Lplaces_right⟩)
    (c_Lplaces_right : PySem.W.codeIn K cd_Lplaces_right "_law_places_right" = true)
    (k_Lplaces_right : PySem.W.keepIn K (.ref f_Lplaces_right) = true)
    (a_law : PySem.W.nsIn K mainGlobals "law" = some (some (.ref f_law)))
    (l_law : K.lookup f_law = some ⟨oc_law, od_law, .func (PySem.W.fnOf "law" "law" (defArgs s_law) (defBody s_law) (defScope s_law) .none kV_law dc_law pm_law an_law cd_law ct_law), sl_law⟩)
    (c_law : PySem.W.codeIn K cd_law "law" = true)
    (k_law : PySem.W.keepIn K (.ref f_law) = true)
    (e_Script_init : PySem.W.findIn K (.ref C_Script) "__init__" = some (some (.ref f_Script_init)))
    (i_Script_init : PySem.W.isFn K (.ref f_Script_init) = true)
    (l_Script_init : K.lookup f_Script_init = some ⟨oc_Script_init, od_Script_init, .func (PySem.W.fnOf "__init__" "Script.__init__" (defArgs s_Script_init) (defBody s_Script_init) (defScope s_Script_init) .none kV_Script_init dc_Script_init pm_Script_init an_Script_init cd_Script_init ct_Script_init), sl_Script_init⟩)
    (c_Script_init : PySem.W.codeIn K cd_Script_init "Script.__init__" = true)
    (k_Script_init : PySem.W.keepIn K (.ref f_Script_init) = true)
    (e_Script_len : PySem.W.findIn K (.ref C_Script) "__len__" = some (some (.ref f_Script_len)))
    (i_Script_len : PySem.W.isFn K (.ref f_Script_len) = true)
    (l_Script_len : K.lookup f_Script_len = some ⟨oc_Script_len, od_Script_len, .func (PySem.W.fnOf "__len__" "Script.__len__" (defArgs s_Script_len) (defBody s_Script_len) (defScope s_Script_len) .none kV_Script_len dc_Script_len pm_Script_len an_Script_len cd_Script_len ct_Script_len), sl_Script_len⟩)
    (c_Script_len : PySem.W.codeIn K cd_Script_len "Script.__len__" = true)
    (k_Script_len : PySem.W.keepIn K (.ref f_Script_len) = true)
    (e_Script_iter : PySem.W.findIn K (.ref C_Script) "__iter__" = some (some (.ref f_Script_iter)))
    (i_Script_iter : PySem.W.isFn K (.ref f_Script_iter) = true)
    (l_Script_iter : K.lookup f_Script_iter = some ⟨oc_Script_iter, od_Script_iter, .func (PySem.W.fnOf "__iter__" "Script.__iter__" (defArgs s_Script_iter) (defBody s_Script_iter) (defScope s_Script_iter) .none kV_Script_iter dc_Script_iter pm_Script_iter an_Script_iter cd_Script_iter ct_Script_iter), sl_Script_iter⟩)
    (c_Script_iter : PySem.W.codeIn K cd_Script_iter "Script.__iter__" = true)
    (k_Script_iter : PySem.W.keepIn K (.ref f_Script_iter) = true)
    (e_Script_mul : PySem.W.findIn K (.ref C_Script) "__mul__" = some (some (.ref f_Script_mul)))
    (i_Script_mul : PySem.W.isFn K (.ref f_Script_mul) = true)
    (l_Script_mul : K.lookup f_Script_mul = some ⟨oc_Script_mul, od_Script_mul, .func (PySem.W.fnOf "__mul__" "Script.__mul__" (defArgs s_Script_mul) (defBody s_Script_mul) (defScope s_Script_mul) .none kV_Script_mul dc_Script_mul pm_Script_mul an_Script_mul cd_Script_mul ct_Script_mul), sl_Script_mul⟩)
    (c_Script_mul : PySem.W.codeIn K cd_Script_mul "Script.__mul__" = true)
    (k_Script_mul : PySem.W.keepIn K (.ref f_Script_mul) = true)
    (e_Script_invert : PySem.W.findIn K (.ref C_Script) "__invert__" = some (some (.ref f_Script_invert)))
    (i_Script_invert : PySem.W.isFn K (.ref f_Script_invert) = true)
    (l_Script_invert : K.lookup f_Script_invert = some ⟨oc_Script_invert, od_Script_invert, .func (PySem.W.fnOf "__invert__" "Script.__invert__" (defArgs s_Script_invert) (defBody s_Script_invert) (defScope s_Script_invert) .none kV_Script_invert dc_Script_invert pm_Script_invert an_Script_invert cd_Script_invert ct_Script_invert), sl_Script_invert⟩)
    (c_Script_invert : PySem.W.codeIn K cd_Script_invert "Script.__invert__" = true)
    (k_Script_invert : PySem.W.keepIn K (.ref f_Script_invert) = true)
    (e_Script_files : PySem.W.findIn K (.ref C_Script) "files" = some (some (.ref p_Script_files)))
    (pg_Script_files : PySem.W.specialIn K (.ref p_Script_files) "__get__" = some (some (.builtin "property.__get__")))
    (pt_Script_files : PySem.W.takesIn K (.ref p_Script_files) = some true)
    (pr_Script_files : PySem.W.recIn K p_Script_files "property" = some (.ref f_Script_files :: r_Script_files))
    (l_Script_files : K.lookup f_Script_files = some ⟨oc_Script_files, od_Script_files, .func (PySem.W.fnOf "files" "Script.files" (defArgs s_Script_files) (defBody s_Script_files) (defScope s_Script_files) .none kV_Script_files dc_Script_files pm_Script_files an_Script_files cd_Script_files ct_Script_files), sl_Script_files⟩)
    (c_Script_files : PySem.W.codeIn K cd_Script_files "Script.files" = true)
    (k_Script_files : PySem.W.keepIn K (.ref f_Script_files) = true)
    (e_Script_calls : PySem.W.findIn K (.ref C_Script) "calls" = some (some (.ref f_Script_calls)))
    (i_Script_calls : PySem.W.isFn K (.ref f_Script_calls) = true)
    (l_Script_calls : K.lookup f_Script_calls = some ⟨oc_Script_calls, od_Script_calls, .func (PySem.W.fnOf "calls" "Script.calls" (defArgs s_Script_calls) (defBody s_Script_calls) (defScope s_Script_calls) .none kV_Script_calls dc_Script_calls pm_Script_calls an_Script_calls cd_Script_calls ct_Script_calls), sl_Script_calls⟩)
    (c_Script_calls : PySem.W.codeIn K cd_Script_calls "Script.calls" = true)
    (k_Script_calls : PySem.W.keepIn K (.ref f_Script_calls) = true)
    (e_Script_times : PySem.W.findIn K (.ref C_Script) "times" = some (some (.ref f_Script_times)))
    (i_Script_times : PySem.W.isFn K (.ref f_Script_times) = true)
    (l_Script_times : K.lookup f_Script_times = some ⟨oc_Script_times, od_Script_times, .func (PySem.W.fnOf "times" "Script.times" (defArgs s_Script_times) (defBody s_Script_times) (defScope s_Script_times) .none kV_Script_times dc_Script_times pm_Script_times an_Script_times cd_Script_times ct_Script_times), sl_Script_times⟩)
    (c_Script_times : PySem.W.codeIn K cd_Script_times "Script.times" = true)
    (k_Script_times : PySem.W.keepIn K (.ref f_Script_times) = true)
    (e_Line_init : PySem.W.findIn K (.ref C_Line) "__init__" = some (some (.ref f_Line_init)))
    (i_Line_init : PySem.W.isFn K (.ref f_Line_init) = true)
    (l_Line_init : K.lookup f_Line_init = some ⟨oc_Line_init, od_Line_init, .func (PySem.W.fnOf "__init__" "Line.__init__" (defArgs s_Line_init) (defBody s_Line_init) (defScope s_Line_init) .none kV_Line_init dc_Line_init pm_Line_init an_Line_init cd_Line_init ct_Line_init), sl_Line_init⟩)
    (c_Line_init : PySem.W.codeIn K cd_Line_init "Line.__init__" = true)
    (k_Line_init : PySem.W.keepIn K (.ref f_Line_init) = true)
    (e_Line_eq : PySem.W.findIn K (.ref C_Line) "__eq__" = some (some (.ref f_Line_eq)))
    (i_Line_eq : PySem.W.isFn K (.ref f_Line_eq) = true)
    (l_Line_eq : K.lookup f_Line_eq = some ⟨oc_Line_eq, od_Line_eq, .func (PySem.W.fnOf "__eq__" "Line.__eq__" (defArgs s_Line_eq) (defBody s_Line_eq) (defScope s_Line_eq) .none kV_Line_eq dc_Line_eq pm_Line_eq an_Line_eq cd_Line_eq ct_Line_eq), sl_Line_eq⟩)
    (c_Line_eq : PySem.W.codeIn K cd_Line_eq "Line.__eq__" = true)
    (k_Line_eq : PySem.W.keepIn K (.ref f_Line_eq) = true)
    (e_Line_order : PySem.W.findIn K (.ref C_Line) "order" = some (some (.ref f_Line_order)))
    (i_Line_order : PySem.W.isFn K (.ref f_Line_order) = true)
    (l_Line_order : K.lookup f_Line_order = some ⟨oc_Line_order, od_Line_order, .func (PySem.W.fnOf "order" "Line.order" (defArgs s_Line_order) (defBody s_Line_order) (defScope s_Line_order) .none kV_Line_order dc_Line_order pm_Line_order an_Line_order cd_Line_order ct_Line_order), sl_Line_order⟩)
    (c_Line_order : PySem.W.codeIn K cd_Line_order "Line.order" = true)
    (k_Line_order : PySem.W.keepIn K (.ref f_Line_order) = true)
    (e_Line_do : PySem.W.findIn K (.ref C_Line) "do" = some (some (.ref f_Line_do)))
    (i_Line_do : PySem.W.isFn K (.ref f_Line_do) = true)
    (l_Line_do : K.lookup f_Line_do = some ⟨oc_Line_do, od_Line_do, .func (PySem.W.fnOf "do" "Line.do" (defArgs s_Line_do) (defBody s_Line_do) (defScope s_Line_do) .none kV_Line_do dc_Line_do pm_Line_do an_Line_do cd_Line_do ct_Line_do), sl_Line_do⟩)
    (c_Line_do : PySem.W.codeIn K cd_Line_do "Line.do" = true)
    (k_Line_do : PySem.W.keepIn K (.ref f_Line_do) = true)
    (e_Line_go : PySem.W.findIn K (.ref C_Line) "go" = some (some (.ref f_Line_go)))
    (i_Line_go : PySem.W.isFn K (.ref f_Line_go) = true)
    (l_Line_go : K.lookup f_Line_go = some ⟨oc_Line_go, od_Line_go, .func (PySem.W.fnOf "go" "Line.go" (defArgs s_Line_go) (defBody s_Line_go) (defScope s_Line_go) .none kV_Line_go dc_Line_go pm_Line_go an_Line_go cd_Line_go ct_Line_go), sl_Line_go⟩)
    (c_Line_go : PySem.W.codeIn K cd_Line_go "Line.go" = true)
    (k_Line_go : PySem.W.keepIn K (.ref f_Line_go) = true)
    (e_Line_copied : PySem.W.findIn K (.ref C_Line) "copied" = some (some (.ref f_Line_copied)))
    (i_Line_copied : PySem.W.isFn K (.ref f_Line_copied) = true)
    (l_Line_copied : K.lookup f_Line_copied = some ⟨oc_Line_copied, od_Line_copied, .func (PySem.W.fnOf "copied" "Line.copied" (defArgs s_Line_copied) (defBody s_Line_copied) (defScope s_Line_copied) .none kV_Line_copied dc_Line_copied pm_Line_copied an_Line_copied cd_Line_copied ct_Line_copied), sl_Line_copied⟩)
    (c_Line_copied : PySem.W.codeIn K cd_Line_copied "Line.copied" = true)
    (k_Line_copied : PySem.W.keepIn K (.ref f_Line_copied) = true)
    (a_PARTS : PySem.W.nsIn K mainGlobals "PARTS" = some (some (.ref q_PARTS)))
    (l_PARTS : K.lookup q_PARTS = some ⟨.type "dict", none, .dict qe_PARTS qn_PARTS, #[]⟩)
    (v_PARTS_all : PySem.W.nsIn K q_PARTS "all" = some (some (.str "k" t_PARTS_all)))
    (v_PARTS_up : PySem.W.nsIn K q_PARTS "up" = some (some (.str "fk" t_PARTS_up)))
    (v_PARTS_swap : PySem.W.nsIn K q_PARTS "swap" = some (some (.str "ff" t_PARTS_swap)))
    (v_PARTS_wheel : PySem.W.nsIn K q_PARTS "wheel" = some (some (.str "ffk" t_PARTS_wheel)))
    (v_PARTS_about : PySem.W.nsIn K q_PARTS "about" = some (some (.str "" t_PARTS_about)))
    (v_PARTS_front : PySem.W.nsIn K q_PARTS "front" = some (some (.str "ff" t_PARTS_front)))
    (v_PARTS_halve : PySem.W.nsIn K q_PARTS "halve" = some (some (.str "" t_PARTS_halve)))
    (v_PARTS_pair : PySem.W.nsIn K q_PARTS "pair" = some (some (.str "" t_PARTS_pair)))
    (v_PARTS_others : PySem.W.nsIn K q_PARTS "others" = some (some (.str "" t_PARTS_others)))
    (v_PARTS_fill : PySem.W.nsIn K q_PARTS "fill" = some (some (.str "" t_PARTS_fill)))
    (li_PARTS : PySem.W.KeysLit w.params qe_PARTS.toList)
    (lo_PARTS : (q_PARTS == sysModules) = false)
    (a_UNDOING : PySem.W.nsIn K mainGlobals "UNDOING" = some (some (.ref q_UNDOING)))
    (l_UNDOING : K.lookup q_UNDOING = some ⟨.type "dict", none, .dict qe_UNDOING qn_UNDOING, #[]⟩)
    (v_UNDOING_halve : PySem.W.nsIn K q_UNDOING "halve" = some (some (.str "pair" t_UNDOING_halve)))
    (v_UNDOING_pair : PySem.W.nsIn K q_UNDOING "pair" = some (some (.str "halve" t_UNDOING_pair)))
    (v_UNDOING_others : PySem.W.nsIn K q_UNDOING "others" = some (some (.str "fill" t_UNDOING_others)))
    (v_UNDOING_fill : PySem.W.nsIn K q_UNDOING "fill" = some (some (.str "others" t_UNDOING_fill)))
    (o_UNDOING_all : PySem.W.nsIn K q_UNDOING "all" = some none)
    (o_UNDOING_up : PySem.W.nsIn K q_UNDOING "up" = some none)
    (o_UNDOING_swap : PySem.W.nsIn K q_UNDOING "swap" = some none)
    (o_UNDOING_wheel : PySem.W.nsIn K q_UNDOING "wheel" = some none)
    (o_UNDOING_about : PySem.W.nsIn K q_UNDOING "about" = some none)
    (o_UNDOING_front : PySem.W.nsIn K q_UNDOING "front" = some none)
    (li_UNDOING : PySem.W.KeysLit w.params qe_UNDOING.toList)
    (lo_UNDOING : (q_UNDOING == sysModules) = false)
    (a_ACTIONS : PySem.W.nsIn K mainGlobals "ACTIONS" = some (some (.ref q_ACTIONS)))
    (l_ACTIONS : K.lookup q_ACTIONS = some ⟨.type "dict", none, .dict qe_ACTIONS qn_ACTIONS, #[]⟩)
    (v_ACTIONS_all : PySem.W.nsIn K q_ACTIONS "all" = some (some (.ref f_behind_all)))
    (v_ACTIONS_up : PySem.W.nsIn K q_ACTIONS "up" = some (some (.ref f_behind_up)))
    (v_ACTIONS_swap : PySem.W.nsIn K q_ACTIONS "swap" = some (some (.ref f_behind_swap)))
    (v_ACTIONS_wheel : PySem.W.nsIn K q_ACTIONS "wheel" = some (some (.ref f_behind_wheel)))
    (v_ACTIONS_about : PySem.W.nsIn K q_ACTIONS "about" = some (some (.ref f_behind_about)))
    (v_ACTIONS_front : PySem.W.nsIn K q_ACTIONS "front" = some (some (.ref f_behind_front)))
    (v_ACTIONS_halve : PySem.W.nsIn K q_ACTIONS "halve" = some (some (.ref f_behind_halve)))
    (v_ACTIONS_pair : PySem.W.nsIn K q_ACTIONS "pair" = some (some (.ref f_behind_pair)))
    (v_ACTIONS_others : PySem.W.nsIn K q_ACTIONS "others" = some (some (.ref f_behind_others)))
    (v_ACTIONS_fill : PySem.W.nsIn K q_ACTIONS "fill" = some (some (.ref f_behind_fill)))
    (li_ACTIONS : PySem.W.KeysLit w.params qe_ACTIONS.toList)
    (lo_ACTIONS : (q_ACTIONS == sysModules) = false)
    (gi_MOST_ROWS : PySem.W.nsIn K mainGlobals "MOST_ROWS" = some (some (.int 400 ti_MOST_ROWS)))
    (z_len : PySem.W.nsIn K mainGlobals "len" = some none)
    (z_abs : PySem.W.nsIn K mainGlobals "abs" = some none)
    (z_int : PySem.W.nsIn K mainGlobals "int" = some none)
    (z_sorted : PySem.W.nsIn K mainGlobals "sorted" = some none)
    (z_list : PySem.W.nsIn K mainGlobals "list" = some none)
    (z_tuple : PySem.W.nsIn K mainGlobals "tuple" = some none)
    (z_range : PySem.W.nsIn K mainGlobals "range" = some none)
    (z_zip : PySem.W.nsIn K mainGlobals "zip" = some none)
    (z_all : PySem.W.nsIn K mainGlobals "all" = some none)
    (z_set : PySem.W.nsIn K mainGlobals "set" = some none)
    (z_isinstance : PySem.W.nsIn K mainGlobals "isinstance" = some none)
    (z_str : PySem.W.nsIn K mainGlobals "str" = some none)
    (z_bool : PySem.W.nsIn K mainGlobals "bool" = some none)
    (z_reversed : PySem.W.nsIn K mainGlobals "reversed" = some none)
    (z_iter : PySem.W.nsIn K mainGlobals "iter" = some none)
    (z_ValueError : PySem.W.nsIn K mainGlobals "ValueError" = some none) :
    ∃ fd : FuncData, (∀ (s : Shared) (v : Value), BindsTo s fd ⟨[v], []⟩ [("_law_script", v)]) ∧ ∀ base : Heap, K.In base → base.Ns mainGlobals mg → Ow.FnG l.prog w K mg base CX0 11 fa fd ["_law_script"] (sp_law K) := by
  have e := hfa.symm.trans (PySem.W.mg_of X G a_law)
  cases e
  have T : Txt K w mg { c_Script := C_Script, p_Script_files := p_Script_files, c_Line := C_Line, a_is_integer := f_is_integer, fd_is_integer := PySem.W.fnOf "is_integer" "is_integer" (defArgs s_is_integer) (defBody s_is_integer) (defScope s_is_integer) .none kV_is_integer dc_is_integer pm_is_integer an_is_integer cd_is_integer ct_is_integer, a_is_files := f_is_files, fd_is_files := PySem.W.fnOf "is_files" "is_files" (defArgs s_is_files) (defBody s_is_files) (defScope s_is_files) .none kV_is_files dc_is_files pm_is_files an_is_files cd_is_files ct_is_files, a_is_rows := f_is_rows, fd_is_rows := PySem.W.fnOf "is_rows" "is_rows" (defArgs s_is_rows) (defBody s_is_rows) (defScope s_is_rows) .none kV_is_rows dc_is_rows pm_is_rows an_is_rows cd_is_rows ct_is_rows, a_is_index := f_is_index, fd_is_index := PySem.W.fnOf "is_index" "is_index" (defArgs s_is_index) (defBody s_is_index) (defScope s_is_index) .none kV_is_index dc_is_index pm_is_index an_is_index cd_is_index ct_is_index, a_is_part := f_is_part, fd_is_part := PySem.W.fnOf "is_part" "is_part" (defArgs s_is_part) (defBody s_is_part) (defScope s_is_part) .none kV_is_part dc_is_part pm_is_part an_is_part cd_is_part ct_is_part, a_is_call := f_is_call, fd_is_call := PySem.W.fnOf "is_call" "is_call" (defArgs s_is_call) (defBody s_is_call) (defScope s_is_call) .none kV_is_call dc_is_call pm_is_call an_is_call cd_is_call ct_is_call, a_is_straight := f_is_straight, fd_is_straight := PySem.W.fnOf "is_straight" "is_straight" (defArgs s_is_straight) (defBody s_is_straight) (defScope s_is_straight) .none kV_is_straight dc_is_straight pm_is_straight an_is_straight cd_is_straight ct_is_straight, a_turned := f_turned, fd_turned := PySem.W.fnOf "turned" "turned" (defArgs s_turned) (defBody s_turned) (defScope s_turned) .none kV_turned dc_turned pm_turned an_turned cd_turned ct_turned, a_files_of := f_files_of, fd_files_of := PySem.W.fnOf "files_of" "files_of" (defArgs s_files_of) (defBody s_files_of) (defScope s_files_of) .none kV_files_of dc_files_of pm_files_of an_files_of cd_files_of ct_files_of, a_moved_by := f_moved_by, fd_moved_by := PySem.W.fnOf "moved_by" "moved_by" (defArgs s_moved_by) (defBody s_moved_by) (defScope s_moved_by) .none kV_moved_by dc_moved_by pm_moved_by an_moved_by cd_moved_by ct_moved_by, a_cut_of := f_cut_of, fd_cut_of := PySem.W.fnOf "cut_of" "cut_of" (defArgs s_cut_of) (defBody s_cut_of) (defScope s_cut_of) .none kV_cut_of dc_cut_of pm_cut_of an_cut_of cd_cut_of ct_cut_of, a_whole := f_whole, fd_whole := PySem.W.fnOf "whole" "whole" (defArgs s_whole) (defBody s_whole) (defScope s_whole) .none kV_whole dc_whole pm_whole an_whole cd_whole ct_whole, a_cut_of_up := f_cut_of_up, fd_cut_of_up := PySem.W.fnOf "cut_of_up" "cut_of_up" (defArgs s_cut_of_up) (defBody s_cut_of_up) (defScope s_cut_of_up) .none kV_cut_of_up dc_cut_of_up pm_cut_of_up an_cut_of_up cd_cut_of_up ct_cut_of_up, a_cut_of_wheel := f_cut_of_wheel, fd_cut_of_wheel := PySem.W.fnOf "cut_of_wheel" "cut_of_wheel" (defArgs s_cut_of_wheel) (defBody s_cut_of_wheel) (defScope s_cut_of_wheel) .none kV_cut_of_wheel dc_cut_of_wheel pm_cut_of_wheel an_cut_of_wheel cd_cut_of_wheel ct_cut_of_wheel, a_moved_by_open_call := f_moved_by_open_call, fd_moved_by_open_call := PySem.W.fnOf "moved_by_open_call" "moved_by_open_call" (defArgs s_moved_by_open_call) (defBody s_moved_by_open_call) (defScope s_moved_by_open_call) .none kV_moved_by_open_call dc_moved_by_open_call pm_moved_by_open_call an_moved_by_open_call cd_moved_by_open_call ct_moved_by_open_call, a_is_place := f_is_place, fd_is_place := PySem.W.fnOf "is_place" "is_place" (defArgs s_is_place) (defBody s_is_place) (defScope s_is_place) .none kV_is_place dc_is_place pm_is_place an_is_place cd_is_place ct_is_place, a_number_of := f_number_of, fd_number_of := PySem.W.fnOf "number_of" "number_of" (defArgs s_number_of) (defBody s_number_of) (defScope s_number_of) .none kV_number_of dc_number_of pm_number_of an_number_of cd_number_of ct_number_of, a_place_of := f_place_of, fd_place_of := PySem.W.fnOf "place_of" "place_of" (defArgs s_place_of) (defBody s_place_of) (defScope s_place_of) .none kV_place_of dc_place_of pm_place_of an_place_of cd_place_of ct_place_of, a_moved := f_moved, fd_moved := PySem.W.fnOf "moved" "moved" (defArgs s_moved) (defBody s_moved) (defScope s_moved) .none kV_moved dc_moved pm_moved an_moved cd_moved ct_moved, a_passed := f_passed, fd_passed := PySem.W.fnOf "passed" "passed" (defArgs s_passed) (defBody s_passed) (defScope s_passed) .none kV_passed dc_passed pm_passed an_passed cd_passed ct_passed, a_behind_all := f_behind_all, fd_behind_all := PySem.W.fnOf "behind_all" "behind_all" (defArgs s_behind_all) (defBody s_behind_all) (defScope s_behind_all) .none kV_behind_all dc_behind_all pm_behind_all an_behind_all cd_behind_all ct_behind_all, a_behind_up := f_behind_up, fd_behind_up := PySem.W.fnOf "behind_up" "behind_up" (defArgs s_behind_up) (defBody s_behind_up) (defScope s_behind_up) .none kV_behind_up dc_behind_up pm_behind_up an_behind_up cd_behind_up ct_behind_up, a_behind_swap := f_behind_swap, fd_behind_swap := PySem.W.fnOf "behind_swap" "behind_swap" (defArgs s_behind_swap) (defBody s_behind_swap) (defScope s_behind_swap) .none kV_behind_swap dc_behind_swap pm_behind_swap an_behind_swap cd_behind_swap ct_behind_swap, a_behind_wheel := f_behind_wheel, fd_behind_wheel := PySem.W.fnOf "behind_wheel" "behind_wheel" (defArgs s_behind_wheel) (defBody s_behind_wheel) (defScope s_behind_wheel) .none kV_behind_wheel dc_behind_wheel pm_behind_wheel an_behind_wheel cd_behind_wheel ct_behind_wheel, a_behind_about := f_behind_about, fd_behind_about := PySem.W.fnOf "behind_about" "behind_about" (defArgs s_behind_about) (defBody s_behind_about) (defScope s_behind_about) .none kV_behind_about dc_behind_about pm_behind_about an_behind_about cd_behind_about ct_behind_about, a_behind_front := f_behind_front, fd_behind_front := PySem.W.fnOf "behind_front" "behind_front" (defArgs s_behind_front) (defBody s_behind_front) (defScope s_behind_front) .none kV_behind_front dc_behind_front pm_behind_front an_behind_front cd_behind_front ct_behind_front, a_behind_halve := f_behind_halve, fd_behind_halve := PySem.W.fnOf "behind_halve" "behind_halve" (defArgs s_behind_halve) (defBody s_behind_halve) (defScope s_behind_halve) .none kV_behind_halve dc_behind_halve pm_behind_halve an_behind_halve cd_behind_halve ct_behind_halve, a_behind_pair := f_behind_pair, fd_behind_pair := PySem.W.fnOf "behind_pair" "behind_pair" (defArgs s_behind_pair) (defBody s_behind_pair) (defScope s_behind_pair) .none kV_behind_pair dc_behind_pair pm_behind_pair an_behind_pair cd_behind_pair ct_behind_pair, a_behind_others := f_behind_others, fd_behind_others := PySem.W.fnOf "behind_others" "behind_others" (defArgs s_behind_others) (defBody s_behind_others) (defScope s_behind_others) .none kV_behind_others dc_behind_others pm_behind_others an_behind_others cd_behind_others ct_behind_others, a_behind_fill := f_behind_fill, fd_behind_fill := PySem.W.fnOf "behind_fill" "behind_fill" (defArgs s_behind_fill) (defBody s_behind_fill) (defScope s_behind_fill) .none kV_behind_fill dc_behind_fill pm_behind_fill an_behind_fill cd_behind_fill ct_behind_fill, a_columns_led := f_columns_led, fd_columns_led := PySem.W.fnOf "columns_led" "columns_led" (defArgs s_columns_led) (defBody s_columns_led) (defScope s_columns_led) .none kV_columns_led dc_columns_led pm_columns_led an_columns_led cd_columns_led ct_columns_led, a_columns_of := f_columns_of, fd_columns_of := PySem.W.fnOf "columns_of" "columns_of" (defArgs s_columns_of) (defBody s_columns_of) (defScope s_columns_of) .none kV_columns_of dc_columns_of pm_columns_of an_columns_of cd_columns_of ct_columns_of, a_order_of := f_order_of, fd_order_of := PySem.W.fnOf "order_of" "order_of" (defArgs s_order_of) (defBody s_order_of) (defScope s_order_of) .none kV_order_of dc_order_of pm_order_of an_order_of cd_order_of ct_order_of, a_first_columns := f_first_columns, fd_first_columns := PySem.W.fnOf "first_columns" "first_columns" (defArgs s_first_columns) (defBody s_first_columns) (defScope s_first_columns) .none kV_first_columns dc_first_columns pm_first_columns an_first_columns cd_first_columns ct_first_columns, a_order_behind := f_order_behind, fd_order_behind := PySem.W.fnOf "order_behind" "order_behind" (defArgs s_order_behind) (defBody s_order_behind) (defScope s_order_behind) .none kV_order_behind dc_order_behind pm_order_behind an_order_behind cd_order_behind ct_order_behind, a_moves_of := f_moves_of, fd_moves_of := PySem.W.fnOf "moves_of" "moves_of" (defArgs s_moves_of) (defBody s_moves_of) (defScope s_moves_of) .none kV_moves_of dc_moves_of pm_moves_of an_moves_of cd_moves_of ct_moves_of, a_followed := f_followed, fd_followed := PySem.W.fnOf "followed" "followed" (defArgs s_followed) (defBody s_followed) (defScope s_followed) .none kV_followed dc_followed pm_followed an_followed cd_followed ct_followed, a_repeated := f_repeated, fd_repeated := PySem.W.fnOf "repeated" "repeated" (defArgs s_repeated) (defBody s_repeated) (defScope s_repeated) .none kV_repeated dc_repeated pm_repeated an_repeated cd_repeated ct_repeated, a_rearranged := f_rearranged, fd_rearranged := PySem.W.fnOf "rearranged" "rearranged" (defArgs s_rearranged) (defBody s_rearranged) (defScope s_rearranged) .none kV_rearranged dc_rearranged pm_rearranged an_rearranged cd_rearranged ct_rearranged, a_Lbag := f_Lbag, fd_Lbag := PySem.W.fnOf "_law_bag" "_law_bag" (defArgs s_Lbag) (defBody s_Lbag) (defScope s_Lbag) .none kV_Lbag dc_Lbag pm_Lbag an_Lbag cd_Lbag ct_Lbag, a_Ltake := f_Ltake, fd_Ltake := PySem.W.fnOf "_law_take" "_law_take" (defArgs s_Ltake) (defBody s_Ltake) (defScope s_Ltake) .none kV_Ltake dc_Ltake pm_Ltake an_Ltake cd_Ltake ct_Ltake, a_Lone := f_Lone, fd_Lone := PySem.W.fnOf "_law_one" "_law_one" (defArgs s_Lone) (defBody s_Lone) (defScope s_Lone) .none kV_Lone dc_Lone pm_Lone an_Lone cd_Lone ct_Lone, a_Lmixed := f_Lmixed, fd_Lmixed := PySem.W.fnOf "_law_mixed" "_law_mixed" (defArgs s_Lmixed) (defBody s_Lmixed) (defScope s_Lmixed) .none kV_Lmixed dc_Lmixed pm_Lmixed an_Lmixed cd_Lmixed ct_Lmixed, a_Lnumber := f_Lnumber, fd_Lnumber := PySem.W.fnOf "_law_number" "_law_number" (defArgs s_Lnumber) (defBody s_Lnumber) (defScope s_Lnumber) .none kV_Lnumber dc_Lnumber pm_Lnumber an_Lnumber cd_Lnumber ct_Lnumber, a_Ltwo := f_Ltwo, fd_Ltwo := PySem.W.fnOf "_law_two" "_law_two" (defArgs s_Ltwo) (defBody s_Ltwo) (defScope s_Ltwo) .none kV_Ltwo dc_Ltwo pm_Ltwo an_Ltwo cd_Ltwo ct_Ltwo, a_Lcall := f_Lcall, fd_Lcall := PySem.W.fnOf "_law_call" "_law_call" (defArgs s_Lcall) (defBody s_Lcall) (defScope s_Lcall) .none kV_Lcall dc_Lcall pm_Lcall an_Lcall cd_Lcall ct_Lcall, a_Lall_kinds := f_Lall_kinds, fd_Lall_kinds := PySem.W.fnOf "_law_all_kinds" "_law_all_kinds" (defArgs s_Lall_kinds) (defBody s_Lall_kinds) (defScope s_Lall_kinds) .none kV_Lall_kinds dc_Lall_kinds pm_Lall_kinds an_Lall_kinds cd_Lall_kinds ct_Lall_kinds, a_Lcalls := f_Lcalls, fd_Lcalls := PySem.W.fnOf "_law_calls" "_law_calls" (defArgs s_Lcalls) (defBody s_Lcalls) (defScope s_Lcalls) .none kV_Lcalls dc_Lcalls pm_Lcalls an_Lcalls cd_Lcalls ct_Lcalls, a_Lbegun := f_Lbegun, fd_Lbegun := PySem.W.fnOf "_law_begun" "_law_begun" (defArgs s_Lbegun) (defBody s_Lbegun) (defScope s_Lbegun) .none kV_Lbegun dc_Lbegun pm_Lbegun an_Lbegun cd_Lbegun ct_Lbegun, a_Lbehind := f_Lbehind, fd_Lbehind := PySem.W.fnOf "_law_behind" "_law_behind" (defArgs s_Lbehind) (defBody s_Lbehind) (defScope s_Lbehind) .none kV_Lbehind dc_Lbehind pm_Lbehind an_Lbehind cd_Lbehind ct_Lbehind, a_Lplaces_right := f_Lplaces_right, fd_Lplaces_right := PySem.W.fnOf "_law_places_right" "_law_places_right" (defArgs s_Lplaces_right) (defBody s_Lplaces_right) (defScope s_Lplaces_right) .none kV_Lplaces_right dc_Lplaces_right pm_Lplaces_right an_Lplaces_right cd_Lplaces_right ct_Lplaces_right, a_law := fa, fd_law := PySem.W.fnOf "law" "law" (defArgs s_law) (defBody s_law) (defScope s_law) .none kV_law dc_law pm_law an_law cd_law ct_law, a_Script_init := f_Script_init, fd_Script_init := PySem.W.fnOf "__init__" "Script.__init__" (defArgs s_Script_init) (defBody s_Script_init) (defScope s_Script_init) .none kV_Script_init dc_Script_init pm_Script_init an_Script_init cd_Script_init ct_Script_init, a_Script_len := f_Script_len, fd_Script_len := PySem.W.fnOf "__len__" "Script.__len__" (defArgs s_Script_len) (defBody s_Script_len) (defScope s_Script_len) .none kV_Script_len dc_Script_len pm_Script_len an_Script_len cd_Script_len ct_Script_len, a_Script_iter := f_Script_iter, fd_Script_iter := PySem.W.fnOf "__iter__" "Script.__iter__" (defArgs s_Script_iter) (defBody s_Script_iter) (defScope s_Script_iter) .none kV_Script_iter dc_Script_iter pm_Script_iter an_Script_iter cd_Script_iter ct_Script_iter, a_Script_mul := f_Script_mul, fd_Script_mul := PySem.W.fnOf "__mul__" "Script.__mul__" (defArgs s_Script_mul) (defBody s_Script_mul) (defScope s_Script_mul) .none kV_Script_mul dc_Script_mul pm_Script_mul an_Script_mul cd_Script_mul ct_Script_mul, a_Script_invert := f_Script_invert, fd_Script_invert := PySem.W.fnOf "__invert__" "Script.__invert__" (defArgs s_Script_invert) (defBody s_Script_invert) (defScope s_Script_invert) .none kV_Script_invert dc_Script_invert pm_Script_invert an_Script_invert cd_Script_invert ct_Script_invert, a_Script_files := f_Script_files, fd_Script_files := PySem.W.fnOf "files" "Script.files" (defArgs s_Script_files) (defBody s_Script_files) (defScope s_Script_files) .none kV_Script_files dc_Script_files pm_Script_files an_Script_files cd_Script_files ct_Script_files, a_Script_calls := f_Script_calls, fd_Script_calls := PySem.W.fnOf "calls" "Script.calls" (defArgs s_Script_calls) (defBody s_Script_calls) (defScope s_Script_calls) .none kV_Script_calls dc_Script_calls pm_Script_calls an_Script_calls cd_Script_calls ct_Script_calls, a_Script_times := f_Script_times, fd_Script_times := PySem.W.fnOf "times" "Script.times" (defArgs s_Script_times) (defBody s_Script_times) (defScope s_Script_times) .none kV_Script_times dc_Script_times pm_Script_times an_Script_times cd_Script_times ct_Script_times, a_Line_init := f_Line_init, fd_Line_init := PySem.W.fnOf "__init__" "Line.__init__" (defArgs s_Line_init) (defBody s_Line_init) (defScope s_Line_init) .none kV_Line_init dc_Line_init pm_Line_init an_Line_init cd_Line_init ct_Line_init, a_Line_eq := f_Line_eq, fd_Line_eq := PySem.W.fnOf "__eq__" "Line.__eq__" (defArgs s_Line_eq) (defBody s_Line_eq) (defScope s_Line_eq) .none kV_Line_eq dc_Line_eq pm_Line_eq an_Line_eq cd_Line_eq ct_Line_eq, a_Line_order := f_Line_order, fd_Line_order := PySem.W.fnOf "order" "Line.order" (defArgs s_Line_order) (defBody s_Line_order) (defScope s_Line_order) .none kV_Line_order dc_Line_order pm_Line_order an_Line_order cd_Line_order ct_Line_order, a_Line_do := f_Line_do, fd_Line_do := PySem.W.fnOf "do" "Line.do" (defArgs s_Line_do) (defBody s_Line_do) (defScope s_Line_do) .none kV_Line_do dc_Line_do pm_Line_do an_Line_do cd_Line_do ct_Line_do, a_Line_go := f_Line_go, fd_Line_go := PySem.W.fnOf "go" "Line.go" (defArgs s_Line_go) (defBody s_Line_go) (defScope s_Line_go) .none kV_Line_go dc_Line_go pm_Line_go an_Line_go cd_Line_go ct_Line_go, a_Line_copied := f_Line_copied, fd_Line_copied := PySem.W.fnOf "copied" "Line.copied" (defArgs s_Line_copied) (defBody s_Line_copied) (defScope s_Line_copied) .none kV_Line_copied dc_Line_copied pm_Line_copied an_Line_copied cd_Line_copied ct_Line_copied, d_PARTS := q_PARTS, es_PARTS := qe_PARTS, n_PARTS := qn_PARTS, d_UNDOING := q_UNDOING, es_UNDOING := qe_UNDOING, n_UNDOING := qn_UNDOING, d_ACTIONS := q_ACTIONS, es_ACTIONS := qe_ACTIONS, n_ACTIONS := qn_ACTIONS } := { Y_Script := sf_Script, m_Script := PySem.W.mg_of X G g_Script, t_Script := ⟨⟨pg_Script, hd_Script, po_Script, sa_Script⟩, ha_Script, hgt, htk, hm_Script, kI_Script, kB_Script, kT_Script, kL_Script, kD_Script, kS_Script⟩, X_Script := ⟨⟨⟨pg_Script, hd_Script, po_Script, sa_Script⟩, ha_Script, hgt, htk, hm_Script, kI_Script, kB_Script, kT_Script, kL_Script, kD_Script, kS_Script⟩, kO_Script, bI_Script, bL_Script, bT_Script, ne_Script, nI_Script, nL_Script, nT_Script⟩, M_Script := ⟨mk_Script, e_Script_init, i_Script_init, kc_Script⟩, A_Script_width := A_Script_width, A_Script_held := A_Script_held, Q_Script_len := ⟨e_Script_len, i_Script_len, k_Script_len⟩, Q_Script_iter := ⟨e_Script_iter, i_Script_iter, k_Script_iter⟩, Q_Script_mul := ⟨e_Script_mul, i_Script_mul, k_Script_mul⟩, Q_Script_invert := ⟨e_Script_invert, i_Script_invert, k_Script_invert⟩, Q_Script_calls := ⟨e_Script_calls, i_Script_calls, k_Script_calls⟩, Q_Script_times := ⟨e_Script_times, i_Script_times, k_Script_times⟩, P_Script_files := ⟨e_Script_files, pg_Script_files, pt_Script_files, _, pr_Script_files⟩, m_Line := PySem.W.mg_of X G g_Line, t_Line := ⟨⟨pg_Line, hd_Line, po_Line, sa_Line⟩, ha_Line, hgt, htk, hm_Line, kI_Line, kB_Line, kT_Line, kL_Line, kD_Line, kS_Line⟩, X_Line := ⟨⟨⟨pg_Line, hd_Line, po_Line, sa_Line⟩, ha_Line, hgt, htk, hm_Line, kI_Line, kB_Line, kT_Line, kL_Line, kD_Line, kS_Line⟩, kO_Line, bI_Line, bL_Line, bT_Line, ne_Line, nI_Line, nL_Line, nT_Line⟩, M_Line := ⟨mk_Line, e_Line_init, i_Line_init, kc_Line⟩, A_Line_width := A_Line_width, A_Line_depth := A_Line_depth, A_Line_standing := A_Line_standing, Q_Line_eq := ⟨e_Line_eq, i_Line_eq, k_Line_eq⟩, Q_Line_order := ⟨e_Line_order, i_Line_order, k_Line_order⟩, Q_Line_do := ⟨e_Line_do, i_Line_do, k_Line_do⟩, Q_Line_go := ⟨e_Line_go, i_Line_go, k_Line_go⟩, Q_Line_copied := ⟨e_Line_copied, i_Line_copied, k_Line_copied⟩, m_is_integer := PySem.W.mg_of X G a_is_integer, F_is_integer := fun_mk (st := s_is_integer) l_is_integer c_is_integer k_is_integer, k_is_integer := k_is_integer, b_is_integer := (fun_mk (st := s_is_integer) l_is_integer c_is_integer k_is_integer).binds (ps := ["thing"]) fun _ _ _ _ _ _ us hl => match us, hl with | [_], _ => rfl, m_is_files := PySem.W.mg_of X G a_is_files, F_is_files := fun_mk (st := s_is_files) l_is_files c_is_files k_is_files, k_is_files := k_is_files, b_is_files := (fun_mk (st := s_is_files) l_is_files c_is_files k_is_files).binds (ps := ["thing"]) fun _ _ _ _ _ _ us hl => match us, hl with | [_], _ => rfl, m_is_rows := PySem.W.mg_of X G a_is_rows, F_is_rows := fun_mk (st := s_is_rows) l_is_rows c_is_rows k_is_rows, k_is_rows := k_is_rows, b_is_rows := (fun_mk (st := s_is_rows) l_is_rows c_is_rows k_is_rows).binds (ps := ["thing"]) fun _ _ _ _ _ _ us hl => match us, hl with | [_], _ => rfl, m_is_index := PySem.W.mg_of X G a_is_index, F_is_index := fun_mk (st := s_is_index) l_is_index c_is_index k_is_index, k_is_index := k_is_index, b_is_index := (fun_mk (st := s_is_index) l_is_index c_is_index k_is_index).binds (ps := ["thing", "many"]) fun _ _ _ _ _ _ us hl => match us, hl with | [_, _], _ => rfl, m_is_part := PySem.W.mg_of X G a_is_part, F_is_part := fun_mk (st := s_is_part) l_is_part c_is_part k_is_part, k_is_part := k_is_part, b_is_part := (fun_mk (st := s_is_part) l_is_part c_is_part k_is_part).binds (ps := ["files", "part", "item"]) fun _ _ _ _ _ _ us hl => match us, hl with | [_, _, _], _ => rfl, m_is_call := PySem.W.mg_of X G a_is_call, F_is_call := fun_mk (st := s_is_call) l_is_call c_is_call k_is_call, k_is_call := k_is_call, b_is_call := (fun_mk (st := s_is_call) l_is_call c_is_call k_is_call).binds (ps := ["files", "thing"]) fun _ _ _ _ _ _ us hl => match us, hl with | [_, _], _ => rfl, m_is_straight := PySem.W.mg_of X G a_is_straight, F_is_straight := fun_mk (st := s_is_straight) l_is_straight c_is_straight k_is_straight, k_is_straight := k_is_straight, b_is_straight := (fun_mk (st := s_is_straight) l_is_straight c_is_straight k_is_straight).binds (ps := ["call"]) fun _ _ _ _ _ _ us hl => match us, hl with | [_], _ => rfl, m_turned := PySem.W.mg_of X G a_turned, F_turned := fun_mk (st := s_turned) l_turned c_turned k_turned, k_turned := k_turned, b_turned := (fun_mk (st := s_turned) l_turned c_turned k_turned).binds (ps := ["call"]) fun _ _ _ _ _ _ us hl => match us, hl with | [_], _ => rfl, m_files_of := PySem.W.mg_of X G a_files_of, F_files_of := fun_mk (st := s_files_of) l_files_of c_files_of k_files_of, k_files_of := k_files_of, b_files_of := (fun_mk (st := s_files_of) l_files_of c_files_of k_files_of).binds (ps := ["call"]) fun _ _ _ _ _ _ us hl => match us, hl with | [_], _ => rfl, m_moved_by := PySem.W.mg_of X G a_moved_by, F_moved_by := fun_mk (st := s_moved_by) l_moved_by c_moved_by k_moved_by, k_moved_by := k_moved_by, b_moved_by := (fun_mk (st := s_moved_by) l_moved_by c_moved_by k_moved_by).binds (ps := ["call", "files", "rows", "place"]) fun _ _ _ _ _ _ us hl => match us, hl with | [_, _, _, _], _ => rfl, m_cut_of := PySem.W.mg_of X G a_cut_of, F_cut_of := fun_mk (st := s_cut_of) l_cut_of c_cut_of k_cut_of, k_cut_of := k_cut_of, b_cut_of := (fun_mk (st := s_cut_of) l_cut_of c_cut_of k_cut_of).binds (ps := ["call", "files", "rows", "file"]) fun _ _ _ _ _ _ us hl => match us, hl with | [_, _, _, _], _ => rfl, m_whole := PySem.W.mg_of X G a_whole, F_whole := fun_mk (st := s_whole) l_whole c_whole k_whole, k_whole := k_whole, b_whole := (fun_mk (st := s_whole) l_whole c_whole k_whole).binds (ps := ["way"]) fun _ _ _ _ _ _ us hl => match us, hl with | [_], _ => rfl, m_cut_of_up := PySem.W.mg_of X G a_cut_of_up, F_cut_of_up := fun_mk (st := s_cut_of_up) l_cut_of_up c_cut_of_up k_cut_of_up, k_cut_of_up := k_cut_of_up, b_cut_of_up := (fun_mk (st := s_cut_of_up) l_cut_of_up c_cut_of_up k_cut_of_up).binds (ps := ["k", "rows", "file"]) fun _ _ _ _ _ _ us hl => match us, hl with | [_, _, _], _ => rfl, m_cut_of_wheel := PySem.W.mg_of X G a_cut_of_wheel, F_cut_of_wheel := fun_mk (st := s_cut_of_wheel) l_cut_of_wheel c_cut_of_wheel k_cut_of_wheel, k_cut_of_wheel := k_cut_of_wheel, b_cut_of_wheel := (fun_mk (st := s_cut_of_wheel) l_cut_of_wheel c_cut_of_wheel k_cut_of_wheel).binds (ps := ["call", "rows", "file"]) fun _ _ _ _ _ _ us hl => match us, hl with | [_, _, _], _ => rfl, m_moved_by_open_call := PySem.W.mg_of X G a_moved_by_open_call, F_moved_by_open_call := fun_mk (st := s_moved_by_open_call) l_moved_by_open_call c_moved_by_open_call k_moved_by_open_call, k_moved_by_open_call := k_moved_by_open_call, b_moved_by_open_call := (fun_mk (st := s_moved_by_open_call) l_moved_by_open_call c_moved_by_open_call k_moved_by_open_call).binds (ps := ["word", "files", "rows", "place"]) fun _ _ _ _ _ _ us hl => match us, hl with | [_, _, _, _], _ => rfl, m_is_place := PySem.W.mg_of X G a_is_place, F_is_place := fun_mk (st := s_is_place) l_is_place c_is_place k_is_place, k_is_place := k_is_place, b_is_place := (fun_mk (st := s_is_place) l_is_place c_is_place k_is_place).binds (ps := ["files", "rows", "thing"]) fun _ _ _ _ _ _ us hl => match us, hl with | [_, _, _], _ => rfl, m_number_of := PySem.W.mg_of X G a_number_of, F_number_of := fun_mk (st := s_number_of) l_number_of c_number_of k_number_of, k_number_of := k_number_of, b_number_of := (fun_mk (st := s_number_of) l_number_of c_number_of k_number_of).binds (ps := ["files", "place"]) fun _ _ _ _ _ _ us hl => match us, hl with | [_, _], _ => rfl, m_place_of := PySem.W.mg_of X G a_place_of, F_place_of := fun_mk (st := s_place_of) l_place_of c_place_of k_place_of, k_place_of := k_place_of, b_place_of := (fun_mk (st := s_place_of) l_place_of c_place_of k_place_of).binds (ps := ["files", "number"]) fun _ _ _ _ _ _ us hl => match us, hl with | [_, _], _ => rfl, m_moved := PySem.W.mg_of X G a_moved, F_moved := fun_mk (st := s_moved) l_moved c_moved k_moved, k_moved := k_moved, b_moved := (fun_mk (st := s_moved) l_moved c_moved k_moved).binds (ps := ["script", "rows", "place"]) fun _ _ _ _ _ _ us hl => match us, hl with | [_, _, _], _ => rfl, m_passed := PySem.W.mg_of X G a_passed, F_passed := fun_mk (st := s_passed) l_passed c_passed k_passed, k_passed := k_passed, b_passed := (fun_mk (st := s_passed) l_passed c_passed k_passed).binds (ps := ["script", "rows", "place"]) fun _ _ _ _ _ _ us hl => match us, hl with | [_, _, _], _ => rfl, m_behind_all := PySem.W.mg_of X G a_behind_all, F_behind_all := fun_mk (st := s_behind_all) l_behind_all c_behind_all k_behind_all, k_behind_all := k_behind_all, b_behind_all := (fun_mk (st := s_behind_all) l_behind_all c_behind_all k_behind_all).binds (ps := ["columns", "call"]) fun _ _ _ _ _ _ us hl => match us, hl with | [_, _], _ => rfl, m_behind_up := PySem.W.mg_of X G a_behind_up, F_behind_up := fun_mk (st := s_behind_up) l_behind_up c_behind_up k_behind_up, k_behind_up := k_behind_up, b_behind_up := (fun_mk (st := s_behind_up) l_behind_up c_behind_up k_behind_up).binds (ps := ["columns", "call"]) fun _ _ _ _ _ _ us hl => match us, hl with | [_, _], _ => rfl, m_behind_swap := PySem.W.mg_of X G a_behind_swap, F_behind_swap := fun_mk (st := s_behind_swap) l_behind_swap c_behind_swap k_behind_swap, k_behind_swap := k_behind_swap, b_behind_swap := (fun_mk (st := s_behind_swap) l_behind_swap c_behind_swap k_behind_swap).binds (ps := ["columns", "call"]) fun _ _ _ _ _ _ us hl => match us, hl with | [_, _], _ => rfl, m_behind_wheel := PySem.W.mg_of X G a_behind_wheel, F_behind_wheel := fun_mk (st := s_behind_wheel) l_behind_wheel c_behind_wheel k_behind_wheel, k_behind_wheel := k_behind_wheel, b_behind_wheel := (fun_mk (st := s_behind_wheel) l_behind_wheel c_behind_wheel k_behind_wheel).binds (ps := ["columns", "call"]) fun _ _ _ _ _ _ us hl => match us, hl with | [_, _], _ => rfl, m_behind_about := PySem.W.mg_of X G a_behind_about, F_behind_about := fun_mk (st := s_behind_about) l_behind_about c_behind_about k_behind_about, k_behind_about := k_behind_about, b_behind_about := (fun_mk (st := s_behind_about) l_behind_about c_behind_about k_behind_about).binds (ps := ["columns", "call"]) fun _ _ _ _ _ _ us hl => match us, hl with | [_, _], _ => rfl, m_behind_front := PySem.W.mg_of X G a_behind_front, F_behind_front := fun_mk (st := s_behind_front) l_behind_front c_behind_front k_behind_front, k_behind_front := k_behind_front, b_behind_front := (fun_mk (st := s_behind_front) l_behind_front c_behind_front k_behind_front).binds (ps := ["columns", "call"]) fun _ _ _ _ _ _ us hl => match us, hl with | [_, _], _ => rfl, m_behind_halve := PySem.W.mg_of X G a_behind_halve, F_behind_halve := fun_mk (st := s_behind_halve) l_behind_halve c_behind_halve k_behind_halve, k_behind_halve := k_behind_halve, b_behind_halve := (fun_mk (st := s_behind_halve) l_behind_halve c_behind_halve k_behind_halve).binds (ps := ["columns", "call"]) fun _ _ _ _ _ _ us hl => match us, hl with | [_, _], _ => rfl, m_behind_pair := PySem.W.mg_of X G a_behind_pair, F_behind_pair := fun_mk (st := s_behind_pair) l_behind_pair c_behind_pair k_behind_pair, k_behind_pair := k_behind_pair, b_behind_pair := (fun_mk (st := s_behind_pair) l_behind_pair c_behind_pair k_behind_pair).binds (ps := ["columns", "call"]) fun _ _ _ _ _ _ us hl => match us, hl with | [_, _], _ => rfl, m_behind_others := PySem.W.mg_of X G a_behind_others, F_behind_others := fun_mk (st := s_behind_others) l_behind_others c_behind_others k_behind_others, k_behind_others := k_behind_others, b_behind_others := (fun_mk (st := s_behind_others) l_behind_others c_behind_others k_behind_others).binds (ps := ["columns", "call"]) fun _ _ _ _ _ _ us hl => match us, hl with | [_, _], _ => rfl, m_behind_fill := PySem.W.mg_of X G a_behind_fill, F_behind_fill := fun_mk (st := s_behind_fill) l_behind_fill c_behind_fill k_behind_fill, k_behind_fill := k_behind_fill, b_behind_fill := (fun_mk (st := s_behind_fill) l_behind_fill c_behind_fill k_behind_fill).binds (ps := ["columns", "call"]) fun _ _ _ _ _ _ us hl => match us, hl with | [_, _], _ => rfl, m_columns_led := PySem.W.mg_of X G a_columns_led, F_columns_led := fun_mk (st := s_columns_led) l_columns_led c_columns_led k_columns_led, k_columns_led := k_columns_led, b_columns_led := (fun_mk (st := s_columns_led) l_columns_led c_columns_led k_columns_led).binds (ps := ["columns", "calls"]) fun _ _ _ _ _ _ us hl => match us, hl with | [_, _], _ => rfl, m_columns_of := PySem.W.mg_of X G a_columns_of, F_columns_of := fun_mk (st := s_columns_of) l_columns_of c_columns_of k_columns_of, k_columns_of := k_columns_of, b_columns_of := (fun_mk (st := s_columns_of) l_columns_of c_columns_of k_columns_of).binds (ps := ["order", "files"]) fun _ _ _ _ _ _ us hl => match us, hl with | [_, _], _ => rfl, m_order_of := PySem.W.mg_of X G a_order_of, F_order_of := fun_mk (st := s_order_of) l_order_of c_order_of k_order_of, k_order_of := k_order_of, b_order_of := (fun_mk (st := s_order_of) l_order_of c_order_of k_order_of).binds (ps := ["columns"]) fun _ _ _ _ _ _ us hl => match us, hl with | [_], _ => rfl, m_first_columns := PySem.W.mg_of X G a_first_columns, F_first_columns := fun_mk (st := s_first_columns) l_first_columns c_first_columns k_first_columns, k_first_columns := k_first_columns, b_first_columns := (fun_mk (st := s_first_columns) l_first_columns c_first_columns k_first_columns).binds (ps := ["files", "rows"]) fun _ _ _ _ _ _ us hl => match us, hl with | [_, _], _ => rfl, m_order_behind := PySem.W.mg_of X G a_order_behind, F_order_behind := fun_mk (st := s_order_behind) l_order_behind c_order_behind k_order_behind, k_order_behind := k_order_behind, b_order_behind := (fun_mk (st := s_order_behind) l_order_behind c_order_behind k_order_behind).binds (ps := ["script", "rows"]) fun _ _ _ _ _ _ us hl => match us, hl with | [_, _], _ => rfl, m_moves_of := PySem.W.mg_of X G a_moves_of, F_moves_of := fun_mk (st := s_moves_of) l_moves_of c_moves_of k_moves_of, k_moves_of := k_moves_of, b_moves_of := (fun_mk (st := s_moves_of) l_moves_of c_moves_of k_moves_of).binds (ps := ["script", "rows"]) fun _ _ _ _ _ _ us hl => match us, hl with | [_, _], _ => rfl, m_followed := PySem.W.mg_of X G a_followed, F_followed := fun_mk (st := s_followed) l_followed c_followed k_followed, k_followed := k_followed, b_followed := (fun_mk (st := s_followed) l_followed c_followed k_followed).binds (ps := ["one", "other"]) fun _ _ _ _ _ _ us hl => match us, hl with | [_, _], _ => rfl, m_repeated := PySem.W.mg_of X G a_repeated, F_repeated := fun_mk (st := s_repeated) l_repeated c_repeated k_repeated, k_repeated := k_repeated, b_repeated := (fun_mk (st := s_repeated) l_repeated c_repeated k_repeated).binds (ps := ["moves", "many"]) fun _ _ _ _ _ _ us hl => match us, hl with | [_, _], _ => rfl, m_rearranged := PySem.W.mg_of X G a_rearranged, F_rearranged := fun_mk (st := s_rearranged) l_rearranged c_rearranged k_rearranged, k_rearranged := k_rearranged, b_rearranged := (fun_mk (st := s_rearranged) l_rearranged c_rearranged k_rearranged).binds (ps := ["pupils", "moves"]) fun _ _ _ _ _ _ us hl => match us, hl with | [_, _], _ => rfl, m_Lbag := PySem.W.mg_of X G a_Lbag, F_Lbag := fun_mk (st := s_Lbag) l_Lbag c_Lbag k_Lbag, k_Lbag := k_Lbag, b_Lbag := (fun_mk (st := s_Lbag) l_Lbag c_Lbag k_Lbag).binds (ps := ["_law_script"]) fun _ _ _ _ _ _ us hl => match us, hl with | [_], _ => rfl, m_Ltake := PySem.W.mg_of X G a_Ltake, F_Ltake := fun_mk (st := s_Ltake) l_Ltake c_Ltake k_Ltake, k_Ltake := k_Ltake, b_Ltake := (fun_mk (st := s_Ltake) l_Ltake c_Ltake k_Ltake).binds (ps := ["_law_bag_here", "_law_many"]) fun _ _ _ _ _ _ us hl => match us, hl with | [_, _], _ => rfl, m_Lone := PySem.W.mg_of X G a_Lone, F_Lone := fun_mk (st := s_Lone) l_Lone c_Lone k_Lone, k_Lone := k_Lone, b_Lone := (fun_mk (st := s_Lone) l_Lone c_Lone k_Lone).binds (ps := ["_law_bag_here", "_law_some"]) fun _ _ _ _ _ _ us hl => match us, hl with | [_, _], _ => rfl, m_Lmixed := PySem.W.mg_of X G a_Lmixed, F_Lmixed := fun_mk (st := s_Lmixed) l_Lmixed c_Lmixed k_Lmixed, k_Lmixed := k_Lmixed, b_Lmixed := (fun_mk (st := s_Lmixed) l_Lmixed c_Lmixed k_Lmixed).binds (ps := ["_law_bag_here", "_law_things"]) fun _ _ _ _ _ _ us hl => match us, hl with | [_, _], _ => rfl, m_Lnumber := PySem.W.mg_of X G a_Lnumber, F_Lnumber := fun_mk (st := s_Lnumber) l_Lnumber c_Lnumber k_Lnumber, k_Lnumber := k_Lnumber, b_Lnumber := (fun_mk (st := s_Lnumber) l_Lnumber c_Lnumber k_Lnumber).binds (ps := ["_law_bag_here", "_law_most"]) fun _ _ _ _ _ _ us hl => match us, hl with | [_, _], _ => rfl, m_Ltwo := PySem.W.mg_of X G a_Ltwo, F_Ltwo := fun_mk (st := s_Ltwo) l_Ltwo c_Ltwo k_Ltwo, k_Ltwo := k_Ltwo, b_Ltwo := (fun_mk (st := s_Ltwo) l_Ltwo c_Ltwo k_Ltwo).binds (ps := ["_law_bag_here", "_law_files"]) fun _ _ _ _ _ _ us hl => match us, hl with | [_, _], _ => rfl, m_Lcall := PySem.W.mg_of X G a_Lcall, F_Lcall := fun_mk (st := s_Lcall) l_Lcall c_Lcall k_Lcall, k_Lcall := k_Lcall, b_Lcall := (fun_mk (st := s_Lcall) l_Lcall c_Lcall k_Lcall).binds (ps := ["_law_bag_here", "_law_files", "_law_kinds", "_law_most"]) fun _ _ _ _ _ _ us hl => match us, hl with | [_, _, _, _], _ => rfl, m_Lall_kinds := PySem.W.mg_of X G a_Lall_kinds, F_Lall_kinds := fun_mk (st := s_Lall_kinds) l_Lall_kinds c_Lall_kinds k_Lall_kinds, k_Lall_kinds := k_Lall_kinds, b_Lall_kinds := (fun_mk (st := s_Lall_kinds) l_Lall_kinds c_Lall_kinds k_Lall_kinds).binds (ps := []) fun _ _ _ _ _ _ us hl => match us, hl with | [], _ => rfl, m_Lcalls := PySem.W.mg_of X G a_Lcalls, F_Lcalls := fun_mk (st := s_Lcalls) l_Lcalls c_Lcalls k_Lcalls, k_Lcalls := k_Lcalls, b_Lcalls := (fun_mk (st := s_Lcalls) l_Lcalls c_Lcalls k_Lcalls).binds (ps := ["_law_bag_here", "_law_files", "_law_kinds", "_law_many"]) fun _ _ _ _ _ _ us hl => match us, hl with | [_, _, _, _], _ => rfl, m_Lbegun := PySem.W.mg_of X G a_Lbegun, F_Lbegun := fun_mk (st := s_Lbegun) l_Lbegun c_Lbegun k_Lbegun, k_Lbegun := k_Lbegun, b_Lbegun := (fun_mk (st := s_Lbegun) l_Lbegun c_Lbegun k_Lbegun).binds (ps := ["_law_bag_here", "_law_files", "_law_rows"]) fun _ _ _ _ _ _ us hl => match us, hl with | [_, _, _], _ => rfl, m_Lbehind := PySem.W.mg_of X G a_Lbehind, F_Lbehind := fun_mk (st := s_Lbehind) l_Lbehind c_Lbehind k_Lbehind, k_Lbehind := k_Lbehind, b_Lbehind := (fun_mk (st := s_Lbehind) l_Lbehind c_Lbehind k_Lbehind).binds (ps := ["_law_line", "_law_some", "_law_rounds"]) fun _ _ _ _ _ _ us hl => match us, hl with | [_, _, _], _ => rfl, m_Lplaces_right := PySem.W.mg_of X G a_Lplaces_right, F_Lplaces_right := fun_mk (st := s_Lplaces_right) l_Lplaces_right c_Lplaces_right k_Lplaces_right, k_Lplaces_right := k_Lplaces_right, b_Lplaces_right := (fun_mk (st := s_Lplaces_right) l_Lplaces_right c_Lplaces_right k_Lplaces_right).binds (ps := ["_law_bag_here", "_law_one_here", "_law_other", "_law_files", "_law_rows"]) fun _ _ _ _ _ _ us hl => match us, hl with | [_, _, _, _, _], _ => rfl, m_law := PySem.W.mg_of X G a_law, F_law := fun_mk (st := s_law) l_law c_law k_law, k_law := k_law, b_law := (fun_mk (st := s_law) l_law c_law k_law).binds (ps := ["_law_script"]) fun _ _ _ _ _ _ us hl => match us, hl with | [_], _ => rfl, F_Script_init := fun_mk (st := s_Script_init) l_Script_init c_Script_init k_Script_init, k_Script_init := k_Script_init, b_Script_init := (fun_mk (st := s_Script_init) l_Script_init c_Script_init k_Script_init).binds (ps := ["self", "files", "calls"]) fun _ _ _ _ _ _ us hl => match us, hl with | [_, _, _], _ => rfl, F_Script_len := fun_mk (st := s_Script_len) l_Script_len c_Script_len k_Script_len, k_Script_len := k_Script_len, b_Script_len := (fun_mk (st := s_Script_len) l_Script_len c_Script_len k_Script_len).binds (ps := ["self"]) fun _ _ _ _ _ _ us hl => match us, hl with | [_], _ => rfl, F_Script_iter := fun_mk (st := s_Script_iter) l_Script_iter c_Script_iter k_Script_iter, k_Script_iter := k_Script_iter, b_Script_iter := (fun_mk (st := s_Script_iter) l_Script_iter c_Script_iter k_Script_iter).binds (ps := ["self"]) fun _ _ _ _ _ _ us hl => match us, hl with | [_], _ => rfl, F_Script_mul := fun_mk (st := s_Script_mul) l_Script_mul c_Script_mul k_Script_mul, k_Script_mul := k_Script_mul, b_Script_mul := (fun_mk (st := s_Script_mul) l_Script_mul c_Script_mul k_Script_mul).binds (ps := ["self", "other"]) fun _ _ _ _ _ _ us hl => match us, hl with | [_, _], _ => rfl, F_Script_invert := fun_mk (st := s_Script_invert) l_Script_invert c_Script_invert k_Script_invert, k_Script_invert := k_Script_invert, b_Script_invert := (fun_mk (st := s_Script_invert) l_Script_invert c_Script_invert k_Script_invert).binds (ps := ["self"]) fun _ _ _ _ _ _ us hl => match us, hl with | [_], _ => rfl, F_Script_files := fun_mk (st := s_Script_files) l_Script_files c_Script_files k_Script_files, k_Script_files := k_Script_files, b_Script_files := (fun_mk (st := s_Script_files) l_Script_files c_Script_files k_Script_files).binds (ps := ["self"]) fun _ _ _ _ _ _ us hl => match us, hl with | [_], _ => rfl, F_Script_calls := fun_mk (st := s_Script_calls) l_Script_calls c_Script_calls k_Script_calls, k_Script_calls := k_Script_calls, b_Script_calls := (fun_mk (st := s_Script_calls) l_Script_calls c_Script_calls k_Script_calls).binds (ps := ["self"]) fun _ _ _ _ _ _ us hl => match us, hl with | [_], _ => rfl, F_Script_times := fun_mk (st := s_Script_times) l_Script_times c_Script_times k_Script_times, k_Script_times := k_Script_times, b_Script_times := (fun_mk (st := s_Script_times) l_Script_times c_Script_times k_Script_times).binds (ps := ["self", "k"]) fun _ _ _ _ _ _ us hl => match us, hl with | [_, _], _ => rfl, F_Line_init := fun_mk (st := s_Line_init) l_Line_init c_Line_init k_Line_init, k_Line_init := k_Line_init, b_Line_init := (fun_mk (st := s_Line_init) l_Line_init c_Line_init k_Line_init).binds (ps := ["self", "files", "rows"]) fun _ _ _ _ _ _ us hl => match us, hl with | [_, _, _], _ => rfl, F_Line_eq := fun_mk (st := s_Line_eq) l_Line_eq c_Line_eq k_Line_eq, k_Line_eq := k_Line_eq, b_Line_eq := (fun_mk (st := s_Line_eq) l_Line_eq c_Line_eq k_Line_eq).binds (ps := ["self", "other"]) fun _ _ _ _ _ _ us hl => match us, hl with | [_, _], _ => rfl, F_Line_order := fun_mk (st := s_Line_order) l_Line_order c_Line_order k_Line_order, k_Line_order := k_Line_order, b_Line_order := (fun_mk (st := s_Line_order) l_Line_order c_Line_order k_Line_order).binds (ps := ["self"]) fun _ _ _ _ _ _ us hl => match us, hl with | [_], _ => rfl, F_Line_do := fun_mk (st := s_Line_do) l_Line_do c_Line_do k_Line_do, k_Line_do := k_Line_do, b_Line_do := (fun_mk (st := s_Line_do) l_Line_do c_Line_do k_Line_do).binds (ps := ["self", "thing"]) fun _ _ _ _ _ _ us hl => match us, hl with | [_, _], _ => rfl, F_Line_go := fun_mk (st := s_Line_go) l_Line_go c_Line_go k_Line_go, k_Line_go := k_Line_go, b_Line_go := (fun_mk (st := s_Line_go) l_Line_go c_Line_go k_Line_go).binds (ps := ["self", "script", "rounds"]) fun _ _ _ _ _ _ us hl => match us, hl with | [_, _, _], _ => rfl, F_Line_copied := fun_mk (st := s_Line_copied) l_Line_copied c_Line_copied k_Line_copied, k_Line_copied := k_Line_copied, b_Line_copied := (fun_mk (st := s_Line_copied) l_Line_copied c_Line_copied k_Line_copied).binds (ps := ["self"]) fun _ _ _ _ _ _ us hl => match us, hl with | [_], _ => rfl, g_PARTS := PySem.W.mg_of X G a_PARTS, d_PARTS := ⟨l_PARTS, li_PARTS, lo_PARTS⟩, v_PARTS_all := ⟨_, v_PARTS_all⟩, v_PARTS_up := ⟨_, v_PARTS_up⟩, v_PARTS_swap := ⟨_, v_PARTS_swap⟩, v_PARTS_wheel := ⟨_, v_PARTS_wheel⟩, v_PARTS_about := ⟨_, v_PARTS_about⟩, v_PARTS_front := ⟨_, v_PARTS_front⟩, v_PARTS_halve := ⟨_, v_PARTS_halve⟩, v_PARTS_pair := ⟨_, v_PARTS_pair⟩, v_PARTS_others := ⟨_, v_PARTS_others⟩, v_PARTS_fill := ⟨_, v_PARTS_fill⟩, g_UNDOING := PySem.W.mg_of X G a_UNDOING, d_UNDOING := ⟨l_UNDOING, li_UNDOING, lo_UNDOING⟩, v_UNDOING_halve := ⟨_, v_UNDOING_halve⟩, v_UNDOING_pair := ⟨_, v_UNDOING_pair⟩, v_UNDOING_others := ⟨_, v_UNDOING_others⟩, v_UNDOING_fill := ⟨_, v_UNDOING_fill⟩, o_UNDOING_all := o_UNDOING_all, o_UNDOING_up := o_UNDOING_up, o_UNDOING_swap := o_UNDOING_swap, o_UNDOING_wheel := o_UNDOING_wheel, o_UNDOING_about := o_UNDOING_about, o_UNDOING_front := o_UNDOING_front, g_ACTIONS := PySem.W.mg_of X G a_ACTIONS, d_ACTIONS := ⟨l_ACTIONS, li_ACTIONS, lo_ACTIONS⟩, v_ACTIONS_all := v_ACTIONS_all, v_ACTIONS_up := v_ACTIONS_up, v_ACTIONS_swap := v_ACTIONS_swap, v_ACTIONS_wheel := v_ACTIONS_wheel, v_ACTIONS_about := v_ACTIONS_about, v_ACTIONS_front := v_ACTIONS_front, v_ACTIONS_halve := v_ACTIONS_halve, v_ACTIONS_pair := v_ACTIONS_pair, v_ACTIONS_others := v_ACTIONS_others, v_ACTIONS_fill := v_ACTIONS_fill, g_MOST_ROWS := ⟨_, PySem.W.mg_of X G gi_MOST_ROWS⟩, n_len := PySem.W.mg_none_of X G z_len, n_abs := PySem.W.mg_none_of X G z_abs, n_int := PySem.W.mg_none_of X G z_int, n_sorted := PySem.W.mg_none_of X G z_sorted, n_list := PySem.W.mg_none_of X G z_list, n_tuple := PySem.W.mg_none_of X G z_tuple, n_range := PySem.W.mg_none_of X G z_range, n_zip := PySem.W.mg_none_of X G z_zip, n_all := PySem.W.mg_none_of X G z_all, n_set := PySem.W.mg_none_of X G z_set, n_isinstance := PySem.W.mg_none_of X G z_isinstance, n_str := PySem.W.mg_none_of X G z_str, n_bool := PySem.W.mg_none_of X G z_bool, n_reversed := PySem.W.mg_none_of X G z_reversed, n_iter := PySem.W.mg_none_of X G z_iter, n_ValueError := PySem.W.mg_none_of X G z_ValueError }
  exact ⟨_, fun s v => .of_eq rfl, fun base _ _ => ok_law T⟩
theorem walk {l : PySem.W.OpenLaw} {q : Program} {loose : List Str} {XP : (Str → Option Value) → Heap → Prop} {YP : World → Heap → Prop} {d : DefRec} {K : Params → PySem.W.Frag} (hn : l.most = some 63) (hdf : d.params.defaults = [])
    (hY : ∀ (w : World) (h : Heap), YP w h → (K w.params).In h)
    (F : ∀ (w : World) (mg : Str → Option Value) (fa : Addr) (h : Heap), (K w.params).In h → h.Ns mainGlobals mg → mg d.name = some (.ref fa) →
      ∃ fd : FuncData, (∀ (s : Shared) (u : Value), BindsTo s fd ⟨[u], []⟩ [("_law_script", u)]) ∧ ∀ base : Heap, (K w.params).In base → base.Ns mainGlobals mg → Ow.FnG l.prog w (K w.params) mg base CX0 11 fa fd ["_law_script"] (sp_law (K w.params))) :
    PySem.W.WalkO q loose XP YP l.row.toRowW d [] (fun f vs => PySem.call f vs) :=
  Ow.walk_G (n := 63) (k := 11) (x := "_law_script") (sp := fun K => sp_law K) hn (by decide) hdf ⟨rfl, by decide, by decide⟩ hY F (fun K H a ns hl hS => law_start hl hS)
end My
open PySem PySem.W PyProof.Rows in
set_option maxRecDepth 100000 in
set_option maxHeartbeats 0 in
theorem PySem.Challenge.cw_pupilpairs_k28_whole_rounds_add_up_holds : PySem.Challenge.rw_pupilpairs_k28_whole_rounds_add_up.Holds := by
  w_on; o_law; k_head; (case hw => w_witness2)
  k_fill
  refine My.walk (l := PySem.Challenge.rw_pupilpairs_k28_whole_rounds_add_up) rfl rfl (fun w h Y => PySem.W.kIn_of Y) ?F
  case F =>
    intro w mg fa h KX G hmg
    refine' My.all_mk KX G hmg ?g_Script ?pg_Script ?hd_Script ?po_Script ?sa_Script ?ha_Script ?hm_Script ?mk_Script ?kc_Script ?kI_Script ?kB_Script ?kT_Script ?kL_Script ?kD_Script ?kS_Script ?kO_Script ?bI_Script ?bL_Script ?bT_Script ?ne_Script ?nI_Script ?nL_Script ?nT_Script ?sf_Script ?A_Script_width ?A_Script_held ?g_Line ?pg_Line ?hd_Line ?po_Line ?sa_Line ?ha_Line ?hm_Line ?mk_Line ?kc_Line ?kI_Line ?kB_Line ?kT_Line ?kL_Line ?kD_Line ?kS_Line ?kO_Line ?bI_Line ?bL_Line ?bT_Line ?ne_Line ?nI_Line ?nL_Line ?nT_Line ?A_Line_width ?A_Line_depth ?A_Line_standing ?hgt ?htk ?a_is_integer ?l_is_integer ?c_is_integer ?k_is_integer ?a_is_files ?l_is_files ?c_is_files ?k_is_files ?a_is_rows ?l_is_rows ?c_is_rows ?k_is_rows ?a_is_index ?l_is_index ?c_is_index ?k_is_index ?a_is_part ?l_is_part ?c_is_part ?k_is_part ?a_is_call ?l_is_call ?c_is_call ?k_is_call ?a_is_straight ?l_is_straight ?c_is_straight ?k_is_straight ?a_turned ?l_turned ?c_turned ?k_turned ?a_files_of ?l_files_of ?c_files_of ?k_files_of ?a_moved_by ?l_moved_by ?c_moved_by ?k_moved_by ?a_cut_of ?l_cut_of ?c_cut_of ?k_cut_of ?a_whole ?l_whole ?c_whole ?k_whole ?a_cut_of_up ?l_cut_of_up ?c_cut_of_up ?k_cut_of_up ?a_cut_of_wheel ?l_cut_of_wheel ?c_cut_of_wheel ?k_cut_of_wheel ?a_moved_by_open_call ?l_moved_by_open_call ?c_moved_by_open_call ?k_moved_by_open_call ?a_is_place ?l_is_place ?c_is_place ?k_is_place ?a_number_of ?l_number_of ?c_number_of ?k_number_of ?a_place_of ?l_place_of ?c_place_of ?k_place_of ?a_moved ?l_moved ?c_moved ?k_moved ?a_passed ?l_passed ?c_passed ?k_passed ?a_behind_all ?l_behind_all ?c_behind_all ?k_behind_all ?a_behind_up ?l_behind_up ?c_behind_up ?k_behind_up ?a_behind_swap ?l_behind_swap ?c_behind_swap ?k_behind_swap ?a_behind_wheel ?l_behind_wheel ?c_behind_wheel ?k_behind_wheel ?a_behind_about ?l_behind_about ?c_behind_about ?k_behind_about ?a_behind_front ?l_behind_front ?c_behind_front ?k_behind_front ?a_behind_halve ?l_behind_halve ?c_behind_halve ?k_behind_halve ?a_behind_pair ?l_behind_pair ?c_behind_pair ?k_behind_pair ?a_behind_others ?l_behind_others ?c_behind_others ?k_behind_others ?a_behind_fill ?l_behind_fill ?c_behind_fill ?k_behind_fill ?a_columns_led ?l_columns_led ?c_columns_led ?k_columns_led ?a_columns_of ?l_columns_of ?c_columns_of ?k_columns_of ?a_order_of ?l_order_of ?c_order_of ?k_order_of ?a_first_columns ?l_first_columns ?c_first_columns ?k_first_columns ?a_order_behind ?l_order_behind ?c_order_behind ?k_order_behind ?a_moves_of ?l_moves_of ?c_moves_of ?k_moves_of ?a_followed ?l_followed ?c_followed ?k_followed ?a_repeated ?l_repeated ?c_repeated ?k_repeated ?a_rearranged ?l_rearranged ?c_rearranged ?k_rearranged ?a_Lbag ?l_Lbag ?c_Lbag ?k_Lbag ?a_Ltake ?l_Ltake ?c_Ltake ?k_Ltake ?a_Lone ?l_Lone ?c_Lone ?k_Lone ?a_Lmixed ?l_Lmixed ?c_Lmixed ?k_Lmixed ?a_Lnumber ?l_Lnumber ?c_Lnumber ?k_Lnumber ?a_Ltwo ?l_Ltwo ?c_Ltwo ?k_Ltwo ?a_Lcall ?l_Lcall ?c_Lcall ?k_Lcall ?a_Lall_kinds ?l_Lall_kinds ?c_Lall_kinds ?k_Lall_kinds ?a_Lcalls ?l_Lcalls ?c_Lcalls ?k_Lcalls ?a_Lbegun ?l_Lbegun ?c_Lbegun ?k_Lbegun ?a_Lbehind ?l_Lbehind ?c_Lbehind ?k_Lbehind ?a_Lplaces_right ?l_Lplaces_right ?c_Lplaces_right ?k_Lplaces_right ?a_law ?l_law ?c_law ?k_law ?e_Script_init ?i_Script_init ?l_Script_init ?c_Script_init ?k_Script_init ?e_Script_len ?i_Script_len ?l_Script_len ?c_Script_len ?k_Script_len ?e_Script_iter ?i_Script_iter ?l_Script_iter ?c_Script_iter ?k_Script_iter ?e_Script_mul ?i_Script_mul ?l_Script_mul ?c_Script_mul ?k_Script_mul ?e_Script_invert ?i_Script_invert ?l_Script_invert ?c_Script_invert ?k_Script_invert ?e_Script_files ?pg_Script_files ?pt_Script_files ?pr_Script_files ?l_Script_files ?c_Script_files ?k_Script_files ?e_Script_calls ?i_Script_calls ?l_Script_calls ?c_Script_calls ?k_Script_calls ?e_Script_times ?i_Script_times ?l_Script_times ?c_Script_times ?k_Script_times ?e_Line_init ?i_Line_init ?l_Line_init ?c_Line_init ?k_Line_init ?e_Line_eq ?i_Line_eq ?l_Line_eq ?c_Line_eq ?k_Line_eq ?e_Line_order ?i_Line_order ?l_Line_order ?c_Line_order ?k_Line_order ?e_Line_do ?i_Line_do ?l_Line_do ?c_Line_do ?k_Line_do ?e_Line_go ?i_Line_go ?l_Line_go ?c_Line_go ?k_Line_go ?e_Line_copied ?i_Line_copied ?l_Line_copied ?c_Line_copied ?k_Line_copied ?a_PARTS ?l_PARTS ?v_PARTS_all ?v_PARTS_up ?v_PARTS_swap ?v_PARTS_wheel ?v_PARTS_about ?v_PARTS_front ?v_PARTS_halve ?v_PARTS_pair ?v_PARTS_others ?v_PARTS_fill ?li_PARTS ?lo_PARTS ?a_UNDOING ?l_UNDOING ?v_UNDOING_halve ?v_UNDOING_pair ?v_UNDOING_others ?v_UNDOING_fill ?o_UNDOING_all ?o_UNDOING_up ?o_UNDOING_swap ?o_UNDOING_wheel ?o_UNDOING_about ?o_UNDOING_front ?li_UNDOING ?lo_UNDOING ?a_ACTIONS ?l_ACTIONS ?v_ACTIONS_all ?v_ACTIONS_up ?v_ACTIONS_swap ?v_ACTIONS_wheel ?v_ACTIONS_about ?v_ACTIONS_front ?v_ACTIONS_halve ?v_ACTIONS_pair ?v_ACTIONS_others ?v_ACTIONS_fill ?li_ACTIONS ?lo_ACTIONS ?gi_MOST_ROWS ?z_len ?z_abs ?z_int ?z_sorted ?z_list ?z_tuple ?z_range ?z_zip ?z_all ?z_set ?z_isinstance ?z_str ?z_bool ?z_reversed ?z_iter ?z_ValueError
    (case g_Script => k_is)
    (case pg_Script => k_is)
    (case hd_Script => k_is)
    (case po_Script => k_is)
    (case sa_Script => k_is)
    (case ha_Script => k_is)
    (case hm_Script => k_is)
    (case mk_Script => k_is)
    (case kc_Script => k_is)
    (case kI_Script => kit_is)
    (case kB_Script => kit_is)
    (case kT_Script => kit_is)
    (case kL_Script => kit_is)
    (case kD_Script => kit_is)
    (case kS_Script => kit_is)
    (case kO_Script => kit_is)
    (case bI_Script => kit_is)
    (case bL_Script => kit_is)
    (case bT_Script => kit_is)
    (case ne_Script => k_is)
    (case nI_Script => k_is)
    (case nL_Script => k_is)
    (case nT_Script => k_is)
    (case sf_Script => k_is)
    (case A_Script_width => k_is)
    (case A_Script_held => k_is)
    (case g_Line => k_is)
    (case pg_Line => k_is)
    (case hd_Line => k_is)
    (case po_Line => k_is)
    (case sa_Line => k_is)
    (case ha_Line => k_is)
    (case hm_Line => k_is)
    (case mk_Line => k_is)
    (case kc_Line => k_is)
    (case kI_Line => kit_is)
    (case kB_Line => kit_is)
    (case kT_Line => kit_is)
    (case kL_Line => kit_is)
    (case kD_Line => kit_is)
    (case kS_Line => kit_is)
    (case kO_Line => kit_is)
    (case bI_Line => kit_is)
    (case bL_Line => kit_is)
    (case bT_Line => kit_is)
    (case ne_Line => k_is)
    (case nI_Line => k_is)
    (case nL_Line => k_is)
    (case nT_Line => k_is)
    (case A_Line_width => k_is)
    (case A_Line_depth => k_is)
    (case A_Line_standing => k_is)
    (case hgt => k_is)
    (case htk => k_is)
    (case a_is_integer => k_is)
    (case l_is_integer => k_is)
    (case c_is_integer => k_is)
    (case k_is_integer => k_is)
    (case a_is_files => k_is)
    (case l_is_files => k_is)
    (case c_is_files => k_is)
    (case k_is_files => k_is)
    (case a_is_rows => k_is)
    (case l_is_rows => k_is)
    (case c_is_rows => k_is)
    (case k_is_rows => k_is)
    (case a_is_index => k_is)
    (case l_is_index => k_is)
    (case c_is_index => k_is)
    (case k_is_index => k_is)
    (case a_is_part => k_is)
    (case l_is_part => k_is)
    (case c_is_part => k_is)
    (case k_is_part => k_is)
    (case a_is_call => k_is)
    (case l_is_call => k_is)
    (case c_is_call => k_is)
    (case k_is_call => k_is)
    (case a_is_straight => k_is)
    (case l_is_straight => k_is)
    (case c_is_straight => k_is)
    (case k_is_straight => k_is)
    (case a_turned => k_is)
    (case l_turned => k_is)
    (case c_turned => k_is)
    (case k_turned => k_is)
    (case a_files_of => k_is)
    (case l_files_of => k_is)
    (case c_files_of => k_is)
    (case k_files_of => k_is)
    (case a_moved_by => k_is)
    (case l_moved_by => k_is)
    (case c_moved_by => k_is)
    (case k_moved_by => k_is)
    (case a_cut_of => k_is)
    (case l_cut_of => k_is)
    (case c_cut_of => k_is)
    (case k_cut_of => k_is)
    (case a_whole => k_is)
    (case l_whole => k_is)
    (case c_whole => k_is)
    (case k_whole => k_is)
    (case a_cut_of_up => k_is)
    (case l_cut_of_up => k_is)
    (case c_cut_of_up => k_is)
    (case k_cut_of_up => k_is)
    (case a_cut_of_wheel => k_is)
    (case l_cut_of_wheel => k_is)
    (case c_cut_of_wheel => k_is)
    (case k_cut_of_wheel => k_is)
    (case a_moved_by_open_call => k_is)
    (case l_moved_by_open_call => k_is)
    (case c_moved_by_open_call => k_is)
    (case k_moved_by_open_call => k_is)
    (case a_is_place => k_is)
    (case l_is_place => k_is)
    (case c_is_place => k_is)
    (case k_is_place => k_is)
    (case a_number_of => k_is)
    (case l_number_of => k_is)
    (case c_number_of => k_is)
    (case k_number_of => k_is)
    (case a_place_of => k_is)
    (case l_place_of => k_is)
    (case c_place_of => k_is)
    (case k_place_of => k_is)
    (case a_moved => k_is)
    (case l_moved => k_is)
    (case c_moved => k_is)
    (case k_moved => k_is)
    (case a_passed => k_is)
    (case l_passed => k_is)
    (case c_passed => k_is)
    (case k_passed => k_is)
    (case a_behind_all => k_is)
    (case l_behind_all => k_is)
    (case c_behind_all => k_is)
    (case k_behind_all => k_is)
    (case a_behind_up => k_is)
    (case l_behind_up => k_is)
    (case c_behind_up => k_is)
    (case k_behind_up => k_is)
    (case a_behind_swap => k_is)
    (case l_behind_swap => k_is)
    (case c_behind_swap => k_is)
    (case k_behind_swap => k_is)
    (case a_behind_wheel => k_is)
    (case l_behind_wheel => k_is)
    (case c_behind_wheel => k_is)
    (case k_behind_wheel => k_is)
    (case a_behind_about => k_is)
    (case l_behind_about => k_is)
    (case c_behind_about => k_is)
    (case k_behind_about => k_is)
    (case a_behind_front => k_is)
    (case l_behind_front => k_is)
    (case c_behind_front => k_is)
    (case k_behind_front => k_is)
    (case a_behind_halve => k_is)
    (case l_behind_halve => k_is)
    (case c_behind_halve => k_is)
    (case k_behind_halve => k_is)
    (case a_behind_pair => k_is)
    (case l_behind_pair => k_is)
    (case c_behind_pair => k_is)
    (case k_behind_pair => k_is)
    (case a_behind_others => k_is)
    (case l_behind_others => k_is)
    (case c_behind_others => k_is)
    (case k_behind_others => k_is)
    (case a_behind_fill => k_is)
    (case l_behind_fill => k_is)
    (case c_behind_fill => k_is)
    (case k_behind_fill => k_is)
    (case a_columns_led => k_is)
    (case l_columns_led => k_is)
    (case c_columns_led => k_is)
    (case k_columns_led => k_is)
    (case a_columns_of => k_is)
    (case l_columns_of => k_is)
    (case c_columns_of => k_is)
    (case k_columns_of => k_is)
    (case a_order_of => k_is)
    (case l_order_of => k_is)
    (case c_order_of => k_is)
    (case k_order_of => k_is)
    (case a_first_columns => k_is)
    (case l_first_columns => k_is)
    (case c_first_columns => k_is)
    (case k_first_columns => k_is)
    (case a_order_behind => k_is)
    (case l_order_behind => k_is)
    (case c_order_behind => k_is)
    (case k_order_behind => k_is)
    (case a_moves_of => k_is)
    (case l_moves_of => k_is)
    (case c_moves_of => k_is)
    (case k_moves_of => k_is)
    (case a_followed => k_is)
    (case l_followed => k_is)
    (case c_followed => k_is)
    (case k_followed => k_is)
    (case a_repeated => k_is)
    (case l_repeated => k_is)
    (case c_repeated => k_is)
    (case k_repeated => k_is)
    (case a_rearranged => k_is)
    (case l_rearranged => k_is)
    (case c_rearranged => k_is)
    (case k_rearranged => k_is)
    (case a_Lbag => k_is)
    (case l_Lbag => k_is)
    (case c_Lbag => k_is)
    (case k_Lbag => k_is)
    (case a_Ltake => k_is)
    (case l_Ltake => k_is)
    (case c_Ltake => k_is)
    (case k_Ltake => k_is)
    (case a_Lone => k_is)
    (case l_Lone => k_is)
    (case c_Lone => k_is)
    (case k_Lone => k_is)
    (case a_Lmixed => k_is)
    (case l_Lmixed => k_is)
    (case c_Lmixed => k_is)
    (case k_Lmixed => k_is)
    (case a_Lnumber => k_is)
    (case l_Lnumber => k_is)
    (case c_Lnumber => k_is)
    (case k_Lnumber => k_is)
    (case a_Ltwo => k_is)
    (case l_Ltwo => k_is)
    (case c_Ltwo => k_is)
    (case k_Ltwo => k_is)
    (case a_Lcall => k_is)
    (case l_Lcall => k_is)
    (case c_Lcall => k_is)
    (case k_Lcall => k_is)
    (case a_Lall_kinds => k_is)
    (case l_Lall_kinds => k_is)
    (case c_Lall_kinds => k_is)
    (case k_Lall_kinds => k_is)
    (case a_Lcalls => k_is)
    (case l_Lcalls => k_is)
    (case c_Lcalls => k_is)
    (case k_Lcalls => k_is)
    (case a_Lbegun => k_is)
    (case l_Lbegun => k_is)
    (case c_Lbegun => k_is)
    (case k_Lbegun => k_is)
    (case a_Lbehind => k_is)
    (case l_Lbehind => k_is)
    (case c_Lbehind => k_is)
    (case k_Lbehind => k_is)
    (case a_Lplaces_right => k_is)
    (case l_Lplaces_right => k_is)
    (case c_Lplaces_right => k_is)
    (case k_Lplaces_right => k_is)
    (case a_law => k_is)
    (case l_law => k_is)
    (case c_law => k_is)
    (case k_law => k_is)
    (case e_Script_init => k_is)
    (case i_Script_init => k_is)
    (case l_Script_init => k_is)
    (case c_Script_init => k_is)
    (case k_Script_init => k_is)
    (case e_Script_len => k_is)
    (case i_Script_len => k_is)
    (case l_Script_len => k_is)
    (case c_Script_len => k_is)
    (case k_Script_len => k_is)
    (case e_Script_iter => k_is)
    (case i_Script_iter => k_is)
    (case l_Script_iter => k_is)
    (case c_Script_iter => k_is)
    (case k_Script_iter => k_is)
    (case e_Script_mul => k_is)
    (case i_Script_mul => k_is)
    (case l_Script_mul => k_is)
    (case c_Script_mul => k_is)
    (case k_Script_mul => k_is)
    (case e_Script_invert => k_is)
    (case i_Script_invert => k_is)
    (case l_Script_invert => k_is)
    (case c_Script_invert => k_is)
    (case k_Script_invert => k_is)
    (case e_Script_files => k_is)
    (case pg_Script_files => k_is)
    (case pt_Script_files => k_is)
    (case pr_Script_files => k_is)
    (case l_Script_files => k_is)
    (case c_Script_files => k_is)
    (case k_Script_files => k_is)
    (case e_Script_calls => k_is)
    (case i_Script_calls => k_is)
    (case l_Script_calls => k_is)
    (case c_Script_calls => k_is)
    (case k_Script_calls => k_is)
    (case e_Script_times => k_is)
    (case i_Script_times => k_is)
    (case l_Script_times => k_is)
    (case c_Script_times => k_is)
    (case k_Script_times => k_is)
    (case e_Line_init => k_is)
    (case i_Line_init => k_is)
    (case l_Line_init => k_is)
    (case c_Line_init => k_is)
    (case k_Line_init => k_is)
    (case e_Line_eq => k_is)
    (case i_Line_eq => k_is)
    (case l_Line_eq => k_is)
    (case c_Line_eq => k_is)
    (case k_Line_eq => k_is)
    (case e_Line_order => k_is)
    (case i_Line_order => k_is)
    (case l_Line_order => k_is)
    (case c_Line_order => k_is)
    (case k_Line_order => k_is)
    (case e_Line_do => k_is)
    (case i_Line_do => k_is)
    (case l_Line_do => k_is)
    (case c_Line_do => k_is)
    (case k_Line_do => k_is)
    (case e_Line_go => k_is)
    (case i_Line_go => k_is)
    (case l_Line_go => k_is)
    (case c_Line_go => k_is)
    (case k_Line_go => k_is)
    (case e_Line_copied => k_is)
    (case i_Line_copied => k_is)
    (case l_Line_copied => k_is)
    (case c_Line_copied => k_is)
    (case k_Line_copied => k_is)
    (case a_PARTS => k_is)
    (case l_PARTS => k_is)
    (case v_PARTS_all => k_is)
    (case v_PARTS_up => k_is)
    (case v_PARTS_swap => k_is)
    (case v_PARTS_wheel => k_is)
    (case v_PARTS_about => k_is)
    (case v_PARTS_front => k_is)
    (case v_PARTS_halve => k_is)
    (case v_PARTS_pair => k_is)
    (case v_PARTS_others => k_is)
    (case v_PARTS_fill => k_is)
    (case li_PARTS => exact ⟨⟨_, _, rfl, rfl⟩, ⟨_, _, rfl, rfl⟩, ⟨_, _, rfl, rfl⟩, ⟨_, _, rfl, rfl⟩, ⟨_, _, rfl, rfl⟩, ⟨_, _, rfl, rfl⟩, ⟨_, _, rfl, rfl⟩, ⟨_, _, rfl, rfl⟩, ⟨_, _, rfl, rfl⟩, ⟨_, _, rfl, rfl⟩, trivial⟩)
    (case lo_PARTS => decide +kernel)
    (case a_UNDOING => k_is)
    (case l_UNDOING => k_is)
    (case v_UNDOING_halve => k_is)
    (case v_UNDOING_pair => k_is)
    (case v_UNDOING_others => k_is)
    (case v_UNDOING_fill => k_is)
    (case o_UNDOING_all => k_is)
    (case o_UNDOING_up => k_is)
    (case o_UNDOING_swap => k_is)
    (case o_UNDOING_wheel => k_is)
    (case o_UNDOING_about => k_is)
    (case o_UNDOING_front => k_is)
    (case li_UNDOING => exact ⟨⟨_, _, rfl, rfl⟩, ⟨_, _, rfl, rfl⟩, ⟨_, _, rfl, rfl⟩, ⟨_, _, rfl, rfl⟩, trivial⟩)
    (case lo_UNDOING => decide +kernel)
    (case a_ACTIONS => k_is)
    (case l_ACTIONS => k_is)
    (case v_ACTIONS_all => k_is)
    (case v_ACTIONS_up => k_is)
    (case v_ACTIONS_swap => k_is)
    (case v_ACTIONS_wheel => k_is)
    (case v_ACTIONS_about => k_is)
    (case v_ACTIONS_front => k_is)
    (case v_ACTIONS_halve => k_is)
    (case v_ACTIONS_pair => k_is)
    (case v_ACTIONS_others => k_is)
    (case v_ACTIONS_fill => k_is)
    (case li_ACTIONS => exact ⟨⟨_, _, rfl, rfl⟩, ⟨_, _, rfl, rfl⟩, ⟨_, _, rfl, rfl⟩, ⟨_, _, rfl, rfl⟩, ⟨_, _, rfl, rfl⟩, ⟨_, _, rfl, rfl⟩, ⟨_, _, rfl, rfl⟩, ⟨_, _, rfl, rfl⟩, ⟨_, _, rfl, rfl⟩, ⟨_, _, rfl, rfl⟩, trivial⟩)
    (case lo_ACTIONS => decide +kernel)
    (case gi_MOST_ROWS => k_is)
    (case z_len => k_is)
    (case z_abs => k_is)
    (case z_int => k_is)
    (case z_sorted => k_is)
    (case z_list => k_is)
    (case z_tuple => k_is)
    (case z_range => k_is)
    (case z_zip => k_is)
    (case z_all => k_is)
    (case z_set => k_is)
    (case z_isinstance => k_is)
    (case z_str => k_is)
    (case z_bool => k_is)
    (case z_reversed => k_is)
    (case z_iter => k_is)
    (case z_ValueError => k_is)


