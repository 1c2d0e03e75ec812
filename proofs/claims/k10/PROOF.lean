import PyProof.Rows.All
import Wide.All
import OpenK.AllK
import Wide.FinOn
import HandS.ForMost
import HandS.Zip
import KE.GoesZip
import KE.GoesMore
import KE.GoesEnum
import HandS.Conv
import HandS.Wide
import HandS.More
import HandS.SortRule
import HandS.IterVal
import PyProof.Rows.SetFrom
import HandS.IsInst
import HandS.ExcCtx
import HandS.RaiseMore
import PyProof.ReprRoads
import PyProof.ReprBulk
import PyProof.Rows.StrMul
import KE.KxIndex
import PyProof.FitsInt
import PyProof.Rows.ReprShort
import HandS.TupAny
import HandS.Strs
import HandS.Sort
import HandS.HotCalls
import HandS.ExcInit
import HandS.ExcField
import KE.KExcIs
import KE.KTryMore
import HandS.Style
import PyProof.P3Eq
import HandS.ExcIs
import PyProof.Rows.StrJoinRep
import HandS.ReCall
import HandS.OwnEq
import HandS.NoneIn
import PyProof.ListNew
import PyProof.WalksMore
import HandS.Property
import HandS.TupMul
import HandS.Rev
import HandS.ExcOwn
import HandS.Lambda
import HandS.EndTab
import KE.KNestM
import PyProof.EqKinds
import KE.KEqDict
import PyProof.Rows.ReprOcc
import PyProof.Rows.ReprWords
import HandS.DictTup
import HandS.ExcValue
import PyProof.NeKinds
import HandS.Small
import PySem.Challenge.RW_pupilpairs_k10_errors_apart
set_option Elab.async false
set_option maxRecDepth 100000
set_option maxHeartbeats 2000000
namespace Zst
open PySem PySem.Spec PyProof.Rows L2

/-- what a zip of the text x and the tuple at b yields -/
def ItzS (K : PySem.W.Frag) (x : Str) (b : Addr) : It :=
  ⟨fun i H => ∃ (ys : List V) (c : Nat) (y : V), SqT K H b ys ∧ x.cps[i]? = some c ∧ ys[i]? = some y,
    fun i H v H' => ∃ (T : Addr) (c : Nat) (y : V), v = .ref T ∧ H T = none ∧ H' = upd H T (.tup [.str ⟨#[c]⟩, y]) ∧ x.cps[i]? = some c ∧ ∀ ys, SqT K H b ys → ys[i]? = some y,
    fun i H => ∃ ys : List V, SqT K H b ys ∧ ((x.cps.size = i ∧ i ≤ ys.length) ∨ (ys.length = i ∧ i ≤ x.cps.size))⟩

def tnS (z TI TO i1 i2 b : Addr) (x : Str) (t : Tok) (i : Nat) (h : Heap) : Prop :=
  IsZip h z TI TO .none ∧ IsTupOf2 h TI (.ref i1) (.ref i2) ∧ (∃ u v, IsTupOf2 h TO u v) ∧ h.IsStrIter i1 (strIterType x) x t i ∧ h.IsTupleIter i2 b i

theorem turnS {P : Program} {w : World} {K : PySem.W.Frag} {elts : List Expr} {kk : Nat} {tpos : Pos} {z TI TO i1 i2 b : Addr} {x : Str} {t : Tok} (D : ZipSep2 z TI TO i1 i2 [i1] [i2, b]) (hbi : b ≠ i2) :
    Turn P w K (.Tuple elts kk tpos) (ItzS K x b) [z, TI, TO, i1, i2] z (tnS z TI TO i1 i2 b x t) where
  mem := by simp
  obj := by
    rintro i h ⟨g1, g2, ⟨u, v, g3⟩, ⟨o4, g4, _, d4⟩, ⟨o5, g5, _, d5⟩⟩ c hc
    have hc' : c = z ∨ c = TI ∨ c = TO ∨ c = i1 ∨ c = i2 := by simpa using hc
    rcases hc' with rfl | rfl | rfl | rfl | rfl
    · exact ⟨_, g1, fun _ q => nomatch q⟩
    · exact ⟨_, g2, fun _ q => nomatch q⟩
    · exact ⟨_, g3, fun _ q => nomatch q⟩
    · exact ⟨_, g4, fun _ q => by rw [d4] at q; cases q⟩
    · exact ⟨_, g5, fun _ q => by rw [d5] at q; cases q⟩
  keep := by
    rintro i h h' ⟨g1, g2, ⟨u, v, g3⟩, ⟨o4, g4, r4⟩, g5⟩ k
    exact ⟨k z (by simp) _ g1, k TI (by simp) _ g2, ⟨u, v, k TO (by simp) _ g3⟩, ⟨o4, k i1 (by simp) _ g4, r4⟩, g5.at fun o q => k i2 (by simp) o q⟩
  item := by
    intro X hP hw hK hc i pins s σ H E I hf st hg
    subst hP hw hK
    obtain ⟨g1, g2, ⟨u, v, g3⟩, g4, g5⟩ := st
    obtain ⟨ys, c, y, hq, hcx, hy⟩ := hg
    obtain ⟨its, rv, p, _⟩ := I.tuple hq
    have hd : X.A.handled = none := I.ok.hd hc
    have hi1 : i < x.cps.size := (Array.getElem?_eq_some_iff.mp hcx).1
    have hi2 : i < its.toArray.size := by
      have q1 := (List.getElem?_eq_some_iff.mp hy).1
      have q2 := rv.length
      simp
      omega
    have D1 := Draws.text (prog := X.prog) (w := X.w) (A := X.A.in1) hd i1 x t
    have D2 := Draws.tuple (prog := X.prog) (w := X.w) (A := X.A.in1) hd i2 b hbi its.toArray
    refine wpAny_pyNext_zipD2_item D D1 D2 g1 g2 g3 g4 ⟨g5, p⟩ hi1 hi2 fun x1 x2 h' tk e1 e2 b1 b2 d1 d2 b5 b6 b7 => ?_
    have zlt : z < s.heap.objs.size := Heap.lt_size g1
    refine ⟨_, rfl, wpAny_letOwnedTupleGo_zip (s := { s with heap := h', toks := tk }) b1 fun h'' c1 sb => ?_⟩
    obtain ⟨cc, tt, hcc, rfl⟩ := e1
    have ecc : cc = c := Option.some.inj (hcc.symm.trans hcx)
    subst ecc
    obtain ⟨u2, hu2, ru2⟩ := rv.get hy
    have eu : x2 = u2 := by
      have q : its.toArray[i]? = some x2 := e2
      rw [List.getElem?_toArray, hu2] at q
      exact (Option.some.inj q).symm
    subst eu
    have hT : h''.get? s.heap.objs.size = some { cls := .type "tuple", data := .seq #[Value.str ⟨#[cc]⟩ tt, x2] } := (sb.2 _ (Nat.ne_of_gt zlt)).trans b5
    have new : ObjOk X.prog X.w (upd H s.heap.objs.size (.tup [.str ⟨#[cc]⟩, y])) h'' s.heap.objs.size (.tup [.str ⟨#[cc]⟩, y]) :=
      ⟨by show 2 ≤ sizeLine; decide, [Value.str ⟨#[cc]⟩ tt, x2], .cons ⟨tt, rfl⟩ (.cons ru2 .nil), ⟨_, hT, rfl, _, rfl⟩⟩
    have keepAll : ∀ a o, a ≠ z → a ≠ TO → a ≠ i1 → a ≠ i2 → s.heap.get? a = some o → h''.get? a = some o := fun a o n1 n2 n3 n4 q => (sb.2 a n1).trans (b7 a o n1 n2 n3 n4 q)
    have I1 : Inv X pins σ (upd H s.heap.objs.size (.tup [.str ⟨#[cc]⟩, y])) { s with heap := h'', toks := tk } :=
      I.turnedNew (t' := tk) (ch := [z, TI, TO, i1, i2]) (fun a o ha q => keepAll a o (fun q' => ha (by simp [q'])) (fun q' => ha (by simp [q'])) (fun q' => ha (by simp [q'])) (fun q' => ha (by simp [q'])) q) hf (Nat.le_refl _) new
    have d2' := d2.1
    refine ⟨.ref s.heap.objs.size, _, I1, rfl, ⟨_, cc, y, rfl, I.hok.fresh (Nat.le_refl _), rfl, hcx, fun l hl => by rw [I.tuple_inj hl hq]; exact hy⟩, ⟨c1, ?_, ⟨_, _, (sb.2 _ D.TOz).trans b2⟩, ?_, ?_⟩, fun a ha => ?_⟩
    · exact keepAll TI _ D.TIz D.TITO D.TIi1 D.TIi2 g2
    · obtain ⟨o4, q4, r4⟩ := d1
      exact ⟨o4, (sb.2 _ D.zi1.symm).trans q4, r4⟩
    · exact d2'.at fun o q => (sb.2 _ D.zi2.symm).trans q
    · have alt : a < s.heap.objs.size := by
        have ha' : a = z ∨ a = TI ∨ a = TO ∨ a = i1 ∨ a = i2 := by simpa using ha
        rcases ha' with rfl | rfl | rfl | rfl | rfl
        · exact zlt
        · exact Heap.lt_size g2
        · exact Heap.lt_size g3
        · obtain ⟨_, q, _⟩ := g4; exact Heap.lt_size q
        · obtain ⟨_, q, _⟩ := g5; exact Heap.lt_size q
      rw [upd_ne (Nat.ne_of_lt alt)]
      exact (hf a ha).1
  done := by
    intro X hP hw hK hc i pins s σ H E I hf st hg
    subst hP hw hK
    obtain ⟨g1, g2, ⟨u, v, g3⟩, g4, g5⟩ := st
    obtain ⟨ys, hq, hend⟩ := hg
    obtain ⟨its, rv, p, _⟩ := I.tuple hq
    have hd : X.A.handled = none := I.ok.hd hc
    have l2 := rv.length
    have D1 := Draws.text (prog := X.prog) (w := X.w) (A := X.A.in1) hd i1 x t
    have D2 := Draws.tuple (prog := X.prog) (w := X.w) (A := X.A.in1) hd i2 b hbi its.toArray
    have sz : its.toArray.size = ys.length := by simp [l2]
    refine wpAny_pyNext_zipD2_end D D1 D2 g1 g2 g3 g4 ⟨g5, p⟩ (by omega) (by omega) (by omega) fun h' tk hk => ⟨rfl, ?_⟩
    exact I.turnedL (t' := tk) (ch := [z, TI, TO, i1, i2]) (fun a o ha q => hk a o (fun q' => ha (by simp [q'])) (fun q' => ha (by simp [q'])) (fun q' => ha (by simp [q'])) (fun q' => ha (by simp [q'])) q) hf
  self := fun A i s Q E st h => wpAny_pyIter_zip st.1 h

def iZipS (K : PySem.W.Frag) (ta : TA) : TI := fun σ H R => ta σ H fun vs H1 => ∃ (x : Str) (b : Addr) (ys : List V), vs = [.str x, .ref b] ∧ SqT K H1 b ys ∧ R (ItzS K x b) H1

theorem pi_zipS {X : Cx} {e e2 : Expr} {ta : TA} {p pos tpos : Pos} {elts : List Expr} {kk : Nat} (hg : Gl X "zip") (hm : X.mg "zip" = none) (ha : PA X [e, e2] ta)
    (hs : starEach [e, e2] X.env = (false, eval e X.env) :: starEach [e2] X.env := by rfl) (hpl : (backTo pos (starEach [e2] X.env)).any (·.1) = false := by rfl) :
    PI X (.Tuple elts kk tpos) (.Call (.Name "zip" p) [e, e2] [] pos) (iZipS X.K ta) := by
  constructor
  intro pins s σ H R I h
  refine Call_ (ld_blt I hg hm PyProof.Rows.boot_zip (PyProof.Rows.callWith_type1 (thn (ha.run pos pins s σ H _ I h) ?_) hs hpl))
  rintro us s1 ⟨vs, H1, I1, r1, x, b, ys, rfl, hq, q⟩
  match us, r1 with
  | _, .cons (b := u1) ⟨t, e1⟩ (.cons (b := u2) e2 .nil) =>
    subst e1
    have e2' : u2 = Value.ref b := e2
    subst e2'
    obtain ⟨its, rv, p1, _⟩ := I1.tuple hq
    have p1' : s1.heap.IsTuple b its.toArray := p1
    have blt : b < s1.heap.objs.size := by
      obtain ⟨_, q1, _⟩ := id p1
      exact Heap.lt_size q1
    refine zip_begins2 (begins_text x t) (begins_tuple b its.toArray) trivial p1' fun h' c1 c2 c3 c4 c5 hsz hk => wpAny_pyIter_zip c1 ?_
    have I2 : Inv X pins σ H1 { s1 with heap := h' } := I1.kept (t' := s1.toks) hk
    have D : ZipSep2 (s1.heap.objs.size + 4) (s1.heap.objs.size + 2) (s1.heap.objs.size + 3) s1.heap.objs.size (s1.heap.objs.size + 1) [s1.heap.objs.size] [s1.heap.objs.size + 1, b] :=
      zip_sep2 (fp1 := []) (fp2 := [b]) (fun c hc => nomatch hc) (fun c hc => by rw [List.mem_singleton.mp hc]; exact blt)
    refine ⟨s1.heap.objs.size + 4, [s1.heap.objs.size + 4, s1.heap.objs.size + 2, s1.heap.objs.size + 3, s1.heap.objs.size, s1.heap.objs.size + 1], _, _, H1, rfl, I2, turnS (x := x) (t := t) D (Nat.ne_of_lt (Nat.lt_succ_of_lt blt)), ⟨c1, c2, ⟨_, _, c3⟩, ⟨_, c4, rfl, rfl⟩, ⟨_, c5, rfl, rfl⟩⟩, fun c hc => ?_, q⟩
    have hc' : c = s1.heap.objs.size + 4 ∨ c = s1.heap.objs.size + 2 ∨ c = s1.heap.objs.size + 3 ∨ c = s1.heap.objs.size ∨ c = s1.heap.objs.size + 1 := by simpa using hc
    have hle : s1.heap.objs.size ≤ c := by
      rcases hc' with e | e | e | e | e
      all_goals first | exact e ▸ Nat.le_add_right _ _ | exact e ▸ Nat.le_refl _
    exact I1.fpOk hle (I1.hok.fresh hle)
end Zst

set_option Elab.async false
set_option maxRecDepth 100000
set_option maxHeartbeats 2000000
set_option linter.all false
/-! symbolic execution over the hand layer: what stays (Ex), and one rule a reading -/
namespace Sx
open PySem PySem.Spec PyProof.Rows L2

/-- not the four cells of a bag -/
def NB (o : HO) : Prop := ∀ x y z c, o ≠ .lst [.int x, .int y, .int z, .ref c]
theorem NB.tup {xs : List V} : NB (.tup xs) := fun _ _ _ _ h => nomatch h
theorem NB.len {xs : List V} (h : xs.length ≠ 4) : NB (.lst xs) := fun _ _ _ _ e => h (by injection e with e; rw [e]; rfl)
theorem NB.at0 {v : V} {xs : List V} (h : ∀ i, v ≠ .int i) : NB (.lst (v :: xs)) := fun _ _ _ _ e => by
  injection e with e
  exact h _ (List.cons.inj e).1
theorem NB.at3 {a b c v : V} {xs : List V} (h : ∀ i, v ≠ .ref i) : NB (.lst (a :: b :: c :: v :: xs)) := fun _ _ _ _ e => by
  injection e with e
  exact h _ (List.cons.inj (List.cons.inj (List.cons.inj (List.cons.inj e).2).2).2).1
theorem NB.ints {ns : List Int} : NB (.lst (ns.map V.int)) := fun x y z c e => by
  injection e with e
  have h := congrArg (fun l : List V => l[3]?) e
  simp only [List.getElem?_map] at h
  cases q : ns[3]? with
  | none => rw [q] at h; cases h
  | some n => rw [q] at h; cases h
theorem NB.refs {l : List V} (h : ∀ v ∈ l, ∃ a, v = .ref a) : NB (.lst l) := fun x y z c e => by
  injection e with e
  obtain ⟨a, q⟩ := h (.int x) (by rw [e]; simp)
  cases q
theorem NB.frz {o : Obj} {u : HO} : NB (.frz o u) := fun _ _ _ _ h => nomatch h
theorem NB.ins {C dx : Addr} {fs : List (Str × V)} : NB (.ins C dx fs) := fun _ _ _ _ h => nomatch h
theorem NB.own {x : Addr} : NB (.own x) := fun _ _ _ _ h => nomatch h

structure BagC (b c : Addr) (H : Hp) : Prop where
  ex : ∃ (x y z : Int) (ns : List Int), H b = some (.lst [.int x, .int y, .int z, .ref c]) ∧ H c = some (.lst (ns.map V.int)) ∧ 0 ≤ x ∧ 0 ≤ y ∧ y < 2147483647 ∧ 0 ≤ z
def Bag (b : Addr) (H : Hp) : Prop := ∃ c, BagC b c H
/-- all but bags stands as it stood, bags are bags -/
structure Ex (H H' : Hp) : Prop where
  kp : ∀ a o, H a = some o → NB o → H' a = some o
  bg : ∀ b c, BagC b c H → BagC b c H'
section
variable {H H' H1 H2 : Hp} {p a b c l : Addr} {o u : HO}
theorem Ex.refl (H : Hp) : Ex H H := ⟨fun _ _ h _ => h, fun _ _ h => h⟩
theorem Ex.trans (e : Ex H H1) (f : Ex H1 H2) : Ex H H2 := ⟨fun a o h n => f.kp a o (e.kp a o h n) n, fun b c h => f.bg b c (e.bg b c h)⟩
theorem Ex.bag (e : Ex H H1) (h : Bag b H) : Bag b H1 := let ⟨c, q⟩ := h; ⟨c, e.bg b c q⟩
theorem Ex.new (h : H p = none) : Ex H (upd H p o) := by
  have all : ∀ a o', H a = some o' → upd H p o a = some o' := fun a o' e => by rw [upd_ne (ne_of_none e h)]; exact e
  exact ⟨fun a o' e _ => all a o' e, fun b c ⟨x, y, z, ns, e1, e2, r⟩ => ⟨x, y, z, ns, all _ _ e1, all _ _ e2, r⟩⟩
theorem Ex.mut (e : Ex H H1) (h : H l = none) : Ex H (upd H1 l o) := by
  refine ⟨fun a o' q n => ?_, fun b c q => ?_⟩
  · rw [upd_ne (ne_of_none q h)]
    exact e.kp a o' q n
  · obtain ⟨x0, y0, z0, ns0, k1, k2, _⟩ := id q
    obtain ⟨x, y, z, ns, e1, e2, r⟩ := e.bg b c q
    exact ⟨x, y, z, ns, by rw [upd_ne (ne_of_none k1 h)]; exact e1, by rw [upd_ne (ne_of_none k2 h)]; exact e2, r⟩
theorem Ex.fresh (e : Ex H H1) (h : H1 a = none) (n : NB o) : H a ≠ some o := fun q => by
  rw [e.kp a o q n] at h
  cases h
theorem bag_some (h : Bag b H) : ∃ o, H b = some o := let ⟨_, x, y, z, ns, e, _⟩ := h; ⟨_, e⟩
theorem bag_ne (h : Bag b H) (hp : H p = none) : b ≠ p := let ⟨_, e⟩ := bag_some h; ne_of_none e hp

/-! ### one rule a reading -/
variable {K : PySem.W.Frag} {σ : L2.St} {Q : VK} {v w : V} {D : Ends} {t u : TT} {ta tb te : TE} {A B : Prop}
theorem x_var {i : Nat} (hx : σ[i]? = some (some v)) (k : Q v H) : tVar i σ H Q := ⟨v, hx, k⟩
theorem x_c (k : Q v H) : tC v σ H Q := k
theorem x_op {r : R2} (k : ta σ H fun x H1 => tb σ H1 fun y H2 => r x y H2 Q) : tOp r ta tb σ H Q := k
theorem x_un {r : V → Hp → VK → Prop} (k : ta σ H fun x H1 => r x H1 Q) : tUn r ta σ H Q := k
theorem x_I0 {g : Int → Int → V} {i j : Int} (k : Q (g i j) H) : rI0 g (.int i) (.int j) H Q := ⟨i, j, rfl, rfl, k⟩
theorem x_I {C : Int → Int → Prop} {g : Int → Int → V} {i j : Int} (c : C i j) (k : Q (g i j) H) : rI C g (.int i) (.int j) H Q := ⟨i, j, rfl, rfl, c, k⟩
theorem x_U {g : Int → V} {i : Int} (k : Q (g i) H) : rU g (.int i) H Q := ⟨i, rfl, k⟩
theorem x_Eq (h : scal v w = true) (k : Q (.bl (decide (v = w))) H) : rEq v w H Q := ⟨h, k⟩
theorem x_Ne (h : scal v w = true) (k : Q (.bl (!decide (v = w))) H) : rNe v w H Q := ⟨h, k⟩
theorem x_EqI {i j : Int} (k : Q (.bl (decide (i = j))) H) : rEq (.int i) (.int j) H Q := ⟨rfl, by
  rw [show decide ((V.int i) = .int j) = decide (i = j) from decide_eq_decide.mpr ⟨fun h => V.int.inj h, fun h => by rw [h]⟩]; exact k⟩
theorem x_NeI {i j : Int} (k : Q (.bl (!decide (i = j))) H) : rNe (.int i) (.int j) H Q := ⟨rfl, by
  rw [show decide ((V.int i) = .int j) = decide (i = j) from decide_eq_decide.mpr ⟨fun h => V.int.inj h, fun h => by rw [h]⟩]; exact k⟩
theorem x_EqS {i j : Str} (k : Q (.bl (decide (i = j))) H) : rEq (.str i) (.str j) H Q := ⟨rfl, by
  rw [show decide ((V.str i) = .str j) = decide (i = j) from decide_eq_decide.mpr ⟨fun h => V.str.inj h, fun h => by rw [h]⟩]; exact k⟩
theorem x_NeS {i j : Str} (k : Q (.bl (!decide (i = j))) H) : rNe (.str i) (.str j) H Q := ⟨rfl, by
  rw [show decide ((V.str i) = .str j) = decide (i = j) from decide_eq_decide.mpr ⟨fun h => V.str.inj h, fun h => by rw [h]⟩]; exact k⟩
theorem x_EqD {d e : PyData} (h1 : Dp K H v d) (h2 : Dp K H w e) (s1 : SeqAt.shaped d = true) (s2 : SeqAt.shaped e = true) (k : Q (.bl (PyData.eqv d e)) H) : rEqD K v w H Q := ⟨d, e, h1, h2, s1, s2, k⟩
theorem x_NeD {d e : PyData} (h1 : Dp K H v d) (h2 : Dp K H w e) (s1 : SeqAt.shaped d = true) (s2 : SeqAt.shaped e = true) (k : Q (.bl (!PyData.eqv d e)) H) : rNeD K v w H Q := ⟨d, e, h1, h2, s1, s2, k⟩
theorem x_chain {r r' : R2} {tc : TE} (k : ta σ H fun x H1 => tb σ H1 fun y H2 => r x y H2 fun z H3 => ∃ k, z = .bl k ∧ (if k = true then tc σ H3 fun z' H4 => r' y z' H4 Q else Q (.bl false) H3)) : tChain r r' ta tb tc σ H Q := k
-- lists, tuples
theorem x_ixL {xs : List V} {i : Int} (h : H p = some (.lst xs)) (hi : atI xs i = some v) (k : Q v H) : rIxL K (.ref p) (.int i) H Q := ⟨p, xs, i, v, rfl, rfl, SqL.of h, hi, k⟩
theorem x_ixT {xs : List V} {i : Int} (h : H p = some (.tup xs)) (hi : atI xs i = some v) (k : Q v H) : rIxT K (.ref p) (.int i) H Q := ⟨p, xs, i, v, rfl, rfl, SqT.of h, hi, k⟩
/-- a new object -/
def LenNew (xs : List V) (o : HO) (H : Hp) (Q : VK) : Prop := xs.length ≤ sizeLine ∧ ∀ p, H p = none → Q (.ref p) (upd H p o)
def JustNew (o : HO) (H : Hp) (Q : VK) : Prop := ∀ p, H p = none → Q (.ref p) (upd H p o)
theorem x_lenNew {xs : List V} (hl : xs.length ≤ sizeLine) (k : ∀ p H1, Ex H H1 → H p = none → H1 p = some o → Q (.ref p) H1) : LenNew xs o H Q := ⟨hl, fun p hp => k p _ (Ex.new hp) hp upd_same⟩
theorem x_new (k : ∀ p H1, Ex H H1 → H p = none → H1 p = some o → Q (.ref p) H1) : JustNew o H Q := fun p hp => k p _ (Ex.new hp) hp upd_same
theorem x_tup {a : TA} (k : a σ H fun xs H1 => LenNew xs (.tup xs) H1 Q) : tTup a σ H Q := k
theorem x_lst {a : TA} (k : a σ H fun xs H1 => LenNew xs (.lst xs) H1 Q) : tLst a σ H Q := k
theorem x_sl {r : V → Option Int → Option Int → Hp → VK → Prop} {tl th : TO} (k : ta σ H fun x H1 => tl σ H1 fun l H2 => th σ H2 fun u H3 => r x l u H3 Q) : tSl r ta tl th σ H Q := k
theorem x_noPart {q : Option Int → Hp → Prop} (k : q none H) : tNoPart σ H q := k
theorem x_part {q : Option Int → Hp → Prop} (k : ta σ H fun x H1 => ∃ i, x = .int i ∧ q (some i) H1) : tPart ta σ H q := k
theorem x_ex_int {P : Int → Prop} {i : Int} (k : P i) : ∃ j, V.int i = .int j ∧ P j := ⟨i, rfl, k⟩
theorem x_slL {xs : List V} {lo hi : Option Int} (h : H a = some (.lst xs)) (k : JustNew (.lst (cutV xs lo hi)) H Q) : rSlL K (.ref a) lo hi H Q := ⟨a, xs, rfl, SqL.of h, k⟩
-- tests, statements
theorem x_ex_bl {P : Bool → Prop} {b : Bool} (k : P b) : ∃ c, V.bl b = .bl c ∧ P c := ⟨b, rfl, k⟩
theorem x_test {q : Bool → Hp → Prop} (k : ta σ H fun x H' => ∃ b, x = .bl b ∧ q b H') : tTest ta σ H q := k
theorem x_B {q : Bool → Hp → Prop} (k : ta σ H fun x H' => ∃ b, x = .bl b ∧ q b H') : tB ta σ H q := k
theorem x_and {q : Bool → Hp → Prop} (k : t σ H fun c H1 => if c = true then u σ H1 q else q false H1) : tAnd t u σ H q := k
theorem x_or {q : Bool → Hp → Prop} (k : t σ H fun c H1 => if c = true then q true H1 else u σ H1 q) : tOr t u σ H q := k
theorem x_not {q : Bool → Hp → Prop} (k : t σ H fun c H1 => q (!c) H1) : tNot t σ H q := k
theorem x_andV (k : ta σ H fun x H1 => ∃ c, x = .bl c ∧ if c = true then tb σ H1 Q else Q (.bl false) H1) : tAndV ta tb σ H Q := k
theorem x_orV (k : ta σ H fun x H1 => ∃ c, x = .bl c ∧ if c = true then Q (.bl true) H1 else tb σ H1 Q) : tOrV ta tb σ H Q := k
theorem x_notV (k : ta σ H fun x H1 => ∃ c, x = .bl c ∧ Q (.bl (!c)) H1) : tNotV ta σ H Q := k
theorem x_ifE (k : t σ H fun c H1 => if c = true then ta σ H1 Q else tb σ H1 Q) : tIf t ta tb σ H Q := k
theorem x_iteT (k : A) : if true = true then A else B := by rw [if_pos rfl]; exact k
theorem x_iteF (k : B) : if false = true then A else B := by rw [if_neg Bool.false_ne_true]; exact k
theorem x_iteD {c : Prop} [Decidable c] (k1 : c → A) (k2 : ¬ c → B) : if decide c = true then A else B := by
  by_cases h : c
  · rw [decide_eq_true h, if_pos rfl]; exact k1 h
  · rw [decide_eq_false h, if_neg Bool.false_ne_true]; exact k2 h
theorem x_iteN {c : Prop} [Decidable c] (k1 : ¬ c → A) (k2 : c → B) : if (!decide c) = true then A else B := by
  by_cases h : c
  · rw [decide_eq_true h]; exact x_iteF (k2 h)
  · rw [decide_eq_false h]; exact x_iteT (k1 h)
theorem x_iteB {c : Bool} (k1 : c = true → A) (k2 : c = false → B) : if c = true then A else B := by
  cases c with
  | true => exact x_iteT (k1 rfl)
  | false => exact x_iteF (k2 rfl)
theorem x_if {tu tw : TS} (k : t σ H fun b H1 => if b = true then tu D σ H1 else tw D σ H1) : tIfS t tu tw D σ H := k
theorem x_seq {tu tw : TS} (k : tu { D with nx := tw D } σ H) : tSeq tu tw D σ H := k
theorem x_next (k : D.nx σ H) : tNext D σ H := k
theorem x_asg {g : TG} (k : ta σ H fun x H1 => g x σ H1 D.nx) : tAsg ta g D σ H := k
theorem x_gName {i : Nat} {q : L2.St → Hp → Prop} (k : q (σ.set i (some v)) H) : gName i v σ H q := k
theorem x_gTup {n : Nat} {g : TGs} {q : L2.St → Hp → Prop} {xs : List V} (h : H p = some (.tup xs)) (hn : xs.length = n) (k : g xs σ H q) : gTup K n g (.ref p) σ H q := ⟨p, xs, rfl, SqT.of h, hn, k⟩
theorem x_gCons {g : TG} {gs : TGs} {vs : List V} {q : L2.St → Hp → Prop} (k : g v σ H fun σ' H' => gs vs σ' H' q) : gCons g gs (v :: vs) σ H q := ⟨v, vs, rfl, k⟩
theorem x_gNil {q : L2.St → Hp → Prop} (k : q σ H) : gNil [] σ H q := ⟨rfl, k⟩
theorem x_ret (k : ta σ H D.rt) : tRet ta D σ H := k
theorem x_drop (k : ta σ H fun _ H1 => D.nx σ H1) : tDrop ta D σ H := k
theorem x_par {i j : Nat} {a : TA} (k : a σ H fun vs H1 => ∃ v w, vs = [v, w] ∧ D.nx ((σ.set i (some v)).set j (some w)) H1) : tPar i j a D σ H := k
theorem x_ex_2 {P : V → V → Prop} (k : P v w) : ∃ a b, [v, w] = [a, b] ∧ P a b := ⟨v, w, rfl, k⟩
theorem x_aug {i : Nat} {ti : TIp} (hx : σ[i]? = some (some v)) (k : ta σ H fun y H1 => ti v y H1 fun z H2 => D.nx (σ.set i (some z)) H2) : tAug i ta ti D σ H := ⟨v, hx, k⟩
theorem x_ipI {f : Int → Int → Int} {i j : Int} (k : Q (.int (f i j)) H) : ipI f (.int i) (.int j) H Q := ⟨i, j, rfl, rfl, k⟩
theorem x_augS {to ti te : TE} {tget : V → V → Hp → VK → Prop} {tip : TIp} {tset : TSet} (k : to σ H fun o H1 => ti σ H1 fun i H2 => tget o i H2 fun x H3 => te σ H3 fun y H4 => tip x y H4 fun z H5 => tset o i z H5 fun H6 => D.nx σ H6) : tAugS to ti te tget tip tset D σ H := k
theorem x_gSub {to ti : TE} {s : TSet} {q : L2.St → Hp → Prop} (k : to σ H fun o H1 => ti σ H1 fun i H2 => s o i v H2 fun H3 => q σ H3) : gSub to ti s v σ H q := k
theorem x_setL {xs : List V} {i : Int} {j : Nat} {q : Hp → Prop} (h : H p = some (.lst xs)) (hi : ixN xs.length i = some j) (k : q (upd H p (.lst (xs.set j v)))) : rSetL (.ref p) (.int i) v H q := ⟨p, xs, i, j, rfl, rfl, h, hi, k⟩
theorem at_nat {xs : List V} {i : Int} (h0 : 0 ≤ i) (h : xs[i.toNat]? = some v) : atI xs i = some v := by
  have e : i = ((i.toNat : Nat) : Int) := by omega
  rw [e]
  exact atI_nat h
theorem at_map {ns : List Int} {i : Int} (h0 : 0 ≤ i) (h : i < ((ns.map V.int).length : Int)) : ∃ n, atI (ns.map V.int) i = some (.int n) := by
  rw [List.length_map] at h
  have hl : i.toNat < ns.length := by omega
  exact ⟨ns[i.toNat], at_nat h0 (by simp [hl])⟩
theorem Ex.bagTo {x0 y0 z0 x y z : Int} (hb : H b = some (.lst [.int x0, .int y0, .int z0, .ref c])) (same : ∀ a, a ≠ b → H' a = H a) (hb' : H' b = some (.lst [.int x, .int y, .int z, .ref c])) (hx : 0 ≤ x) (hy : 0 ≤ y) (hy2 : y < 2147483647) (hz : 0 ≤ z) : Ex H H' := by
  refine ⟨fun a o q n => ?_, fun b1 c1 q => ?_⟩
  · by_cases e : a = b
    · subst e
      rw [hb] at q
      exact absurd (Option.some.inj q).symm (n _ _ _ _)
    · rw [same a e]; exact q
  · obtain ⟨x1, y1, z1, ns1, k1, k2, k3⟩ := q
    have n2 : c1 ≠ b := fun e => by
      subst e
      rw [hb] at k2
      exact NB.ints _ _ _ _ (Option.some.inj k2).symm
    by_cases e : b1 = b
    · subst e
      rw [hb] at k1
      have ec : c = c1 := by
        injection k1 with k1
        injection k1 with k1
        exact V.ref.inj (List.cons.inj (List.cons.inj (List.cons.inj (List.cons.inj k1).2).2).2).1
      subst ec
      exact ⟨x, y, z, ns1, hb', by rw [same _ n2]; exact k2, hx, hy, hy2, hz⟩
    · exact ⟨x1, y1, z1, ns1, by rw [same _ e]; exact k1, by rw [same _ n2]; exact k2, k3⟩
-- calls
theorem x_cons {a : TA} {q : List V → Hp → Prop} (k : ta σ H fun x H1 => a σ H1 fun xs H2 => q (x :: xs) H2) : tCons ta a σ H q := k
theorem x_nil {q : List V → Hp → Prop} (k : q [] H) : tNil σ H q := k
theorem x_CB {r : List V → Hp → VK → Prop} {a : TA} (k : a σ H fun vs H1 => r vs H1 Q) : tCB r a σ H Q := k
/-- a promise: what it asks, what it gives -/
def Prom (pre : List V → Hp → Prop) (post : List V → V → Hp → Prop) : Sp := fun vs H Q _ => pre vs H ∧ ∀ v H1, Ex H H1 → post vs v H1 → Q v H1
theorem x_call {pre : List V → Hp → Prop} {post : List V → V → Hp → Prop} {E : XK} {a : TA} (k : a σ H fun vs H1 => pre vs H1 ∧ ∀ v H2, Ex H1 H2 → post vs v H2 → Q v H2) : tCall (Prom pre post) [] E a σ H Q := by
  show a σ H fun vs H1 => Prom pre post (vs ++ []) H1 Q E
  have e : (fun (vs : List V) (H1 : Hp) => Prom pre post (vs ++ []) H1 Q E) = fun vs H1 => pre vs H1 ∧ ∀ v H2, Ex H1 H2 → post vs v H2 → Q v H2 := by
    funext vs H1
    rw [List.append_nil]
    rfl
  rw [e]
  exact k
-- built-ins by name
def rAbs : List V → Hp → VK → Prop := fun xs H Q => ∃ i, xs = [.int i] ∧ Q (.int (if i < 0 then -i else i)) H
def rInt : List V → Hp → VK → Prop := fun xs H Q => (∃ i, xs = [.int i] ∧ Q (.int i) H) ∨ ∃ k, xs = [.bl k] ∧ Q (.int (if k then 1 else 0)) H
def rLen (K : PySem.W.Frag) : List V → Hp → VK → Prop := fun xs H Q => ∃ p ys, xs = [.ref p] ∧ (SqL K H p ys ∨ SqT K H p ys) ∧ Q (.int ys.length) H
theorem x_abs {i : Int} (k : Q (.int (if i < 0 then -i else i)) H) : rAbs [.int i] H Q := ⟨i, rfl, k⟩
theorem x_intI {i : Int} (k : Q (.int i) H) : rInt [.int i] H Q := .inl ⟨i, rfl, k⟩
theorem x_intB {b : Bool} (k : Q (.int (if b then 1 else 0)) H) : rInt [.bl b] H Q := .inr ⟨b, rfl, k⟩
theorem x_lenL {xs : List V} (h : H p = some (.lst xs)) (k : Q (.int xs.length) H) : rLen K [.ref p] H Q := ⟨p, xs, rfl, .inl (SqL.of h), k⟩
theorem x_lenT {xs : List V} (h : H p = some (.tup xs)) (k : Q (.int xs.length) H) : rLen K [.ref p] H Q := ⟨p, xs, rfl, .inr (SqT.of h), k⟩
end
section
variable {X : Cx}
theorem c_abs : CallR X (.builtin "abs") rAbs := call_abs
theorem c_int : CallR X (.type "int") rInt := call_int1
theorem c_len : CallR X (.builtin "len") (rLen X.K) := call_len_seq
/-- xs[i] read for xs[i] op= e -/
theorem get_list : PGet X (rIxL X.K) := by
  intro pins s σ H o i ov iv Q I ro ri h
  obtain ⟨p, xs, n, z, rfl, rfl, hq, he, q⟩ := h
  cases ro
  obtain ⟨t, rfl⟩ := ri
  obtain ⟨its, r, pl, hz⟩ := I.list hq
  obtain ⟨j, h1, h2, h3, h4, h5⟩ := atI_get he
  obtain ⟨w, ew, rw'⟩ := r.get h2
  have hl := r.length
  have hn := line63
  have fin : EP X pins σ Q w s := ⟨z, H, I, rw', q⟩
  by_cases h0 : 0 ≤ n
  · have hj : n.toNat = j := by
      rw [seqIndex_of h0 h5] at h1
      exact Option.some.inj h1
    exact wpAny_getItem_list pl.isList h0 (by omega) (by rw [hj]; simpa using ew) fin
  · have hj : (n + (its.toArray.size : Int)).toNat = j := by
      rw [seqIndex_neg (by omega) h4] at h1
      rw [List.size_toArray, ← hl]
      exact Option.some.inj h1
    exact wpAny_getItem_list_neg pl.isList (by omega) (by rw [List.size_toArray]; omega) (by omega) (by rw [hj]; simpa using ew) fin
end
end Sx

set_option Elab.async false
set_option linter.all false
set_option maxRecDepth 100000
set_option maxHeartbeats 2000000
namespace Sx
open PySem PySem.Spec PyProof.Rows L2

def isI : V → Bool
  | .int _ => true
  | _ => false
def isR : V → Bool
  | .ref _ => true
  | _ => false
theorem NB.at0b {v : V} {xs : List V} (h : isI v = false) : NB (.lst (v :: xs)) := NB.at0 fun i e => by rw [e] at h; cases h
theorem NB.at3b {a b c v : V} {xs : List V} (h : isR v = false) : NB (.lst (a :: b :: c :: v :: xs)) := NB.at3 fun i e => by rw [e] at h; cases h
/-- tuples stay -/
def Tx (H H' : Hp) : Prop := ∀ a xs, H a = some (.tup xs) → H' a = some (.tup xs)
section
variable {H H' H1 H2 : Hp} {p a b c l : Addr} {o u : HO} {K : PySem.W.Frag} {σ : L2.St} {Q : VK} {v w : V} {D : Ends} {t : TT} {ta tb te : TE} {A B : Prop}
theorem Ex.tx (e : Ex H H1) : Tx H H1 := fun a xs h => e.kp a _ h NB.tup
theorem Tx.set {d : Addr} {ys : List V} (h : H d = some (.lst ys)) : Tx H (upd H d o) := fun a xs q => by
  rw [upd_ne (ne_of q h (by intro z; cases z))]
  exact q
theorem Tx.new (h : H d = none) : Tx H (upd H d o) := fun a xs q => by
  rw [upd_ne (ne_of_none q h)]
  exact q
theorem Tx.trans (e : Tx H H1) (f : Tx H1 H2) : Tx H H2 := fun a xs h => f a xs (e a xs h)

/-- a comprehension: I tells the turn and what is made so far -/
theorem lc_any {J : It} {n : Nat} {g : TG} {vs : List Nat} (I : Nat → List V → Hp → Prop) (h0 : I 0 [] H1)
    (mono : ∀ i acc H H', Tx H H' → I i acc H → I i acc H') (nb : ∀ i acc H, I i acc H → NB (.lst acc) ∧ acc.length < sizeLine)
    (go : ∀ i H', i < n → Ex H1 H' → J.go i H') (stop : ∀ H', Ex H1 H' → J.stop n H')
    (turn : ∀ i acc x H' H'', i < n → Ex H1 H' → I i acc H' → J.yld i H' x H'' → ∀ kk : Option V → Hp → Prop, (∀ y H4, Ex H' H4 → I (i + 1) (acc ++ [y]) H4 → kk (some y) H4) → (∀ H4, Ex H' H4 → I (i + 1) acc H4 → kk none H4) →
      g x (wipe σ vs) H'' fun σ2 H2 => wipe σ2 vs = wipe σ vs ∧ t σ2 H2 fun b H3 => if b = true then te σ2 H3 (fun y H4 => kk (some y) H4) else kk none H3)
    (k : ∀ p ys H2, Ex H1 H2 → H1 p = none → H2 p = some (.lst ys) → I n ys H2 → Q (.ref p) H2) :
    ∀ D, H1 D = none → ∃ W : Nat → Nat → Hp → Prop, (∃ m, W 0 m (upd H1 D (.lst []))) ∧ ∀ i m H, W i m H →
      (J.stop i H ∧ Q (.ref D) H) ∨ (J.go i H ∧ ∃ Nx : Hp → Prop, (∀ H', Nx H' → ∃ m', m' < m ∧ W (i + 1) m' H') ∧ ∀ x H', J.yld i H x H' → g x (wipe σ vs) H' fun σ2 H2 => wipe σ2 vs = wipe σ vs ∧ t σ2 H2 fun b H3 =>
        if b = true then te σ2 H3 fun y H4 => ∃ acc, H4 D = some (.lst acc) ∧ acc.length < sizeLine ∧ Nx (upd H4 D (.lst (acc ++ [y]))) else Nx H3) := by
  intro D hD
  refine ⟨fun i m H => m = n - i ∧ i ≤ n ∧ Ex H1 H ∧ ∃ acc, H D = some (.lst acc) ∧ I i acc H, ⟨n, rfl, Nat.zero_le _, Ex.new hD, [], upd_same, mono _ _ _ _ (Tx.new hD) h0⟩, ?_⟩
  rintro i m H ⟨rfl, hi, e, acc, hd, hI⟩
  by_cases hlt : i < n
  · refine .inr ⟨go i H hlt e, fun H' => i + 1 ≤ n ∧ Ex H1 H' ∧ ∃ acc, H' D = some (.lst acc) ∧ I (i + 1) acc H', fun H' q => ⟨n - (i + 1), by omega, rfl, q⟩, fun x H' y => ?_⟩
    have nbA := nb _ _ _ hI
    refine turn i acc x H H' hlt e hI y (fun o H4 => match o with
      | some y => ∃ acc, H4 D = some (.lst acc) ∧ acc.length < sizeLine ∧ (i + 1 ≤ n ∧ Ex H1 (upd H4 D (.lst (acc ++ [y]))) ∧ ∃ acc', upd H4 D (.lst (acc ++ [y])) D = some (.lst acc') ∧ I (i + 1) acc' (upd H4 D (.lst (acc ++ [y]))))
      | none => i + 1 ≤ n ∧ Ex H1 H4 ∧ ∃ acc, H4 D = some (.lst acc) ∧ I (i + 1) acc H4) (fun y H4 e4 q => ?_) (fun H4 e4 q => ?_)
    · have hd4 := e4.kp _ _ hd nbA.1
      exact ⟨acc, hd4, nbA.2, hlt, Ex.mut (e.trans e4) hD, acc ++ [y], upd_same, mono _ _ _ _ (Tx.set hd4) q⟩
    · exact ⟨hlt, e.trans e4, acc, e4.kp _ _ hd nbA.1, q⟩
  · have ei : i = n := by omega
    subst ei
    exact .inl ⟨stop H e, k D acc H e hD hd hI⟩

def LcGo (J : It) (g : TG) (t : TT) (te : TE) (vs : List Nat) (σ : L2.St) (H1 : Hp) (Q : VK) : Prop := ∀ D, H1 D = none → ∃ W : Nat → Nat → Hp → Prop, (∃ m, W 0 m (upd H1 D (.lst []))) ∧ ∀ i m H, W i m H →
      (J.stop i H ∧ Q (.ref D) H) ∨ (J.go i H ∧ ∃ Nx : Hp → Prop, (∀ H', Nx H' → ∃ m', m' < m ∧ W (i + 1) m' H') ∧ ∀ x H', J.yld i H x H' → g x (wipe σ vs) H' fun σ2 H2 => wipe σ2 vs = wipe σ vs ∧ t σ2 H2 fun b H3 =>
        if b = true then te σ2 H3 fun y H4 => ∃ acc, H4 D = some (.lst acc) ∧ acc.length < sizeLine ∧ Nx (upd H4 D (.lst (acc ++ [y]))) else Nx H3)
theorem x_lc {wi : TI} {g : TG} {vs : List Nat} (k : wi σ H fun J H1 => LcGo J g t te vs σ H1 Q) : tLc wi g t te vs σ H Q := k
def R1K (xs : List V) (H1 : Hp) (R : It → Hp → Prop) : Prop := ∃ j : Int, xs = [.int j] ∧ -(2 ^ 62) ≤ j ∧ j < 2 ^ 62 ∧ R (Itr 0 j.toNat) H1
def LK (K : PySem.W.Frag) (x : V) (H1 : Hp) (R : It → Hp → Prop) : Prop := ∃ a, x = .ref a ∧ (∃ xs, SqL K H1 a xs) ∧ R (Itl K a) H1
def ZK (K : PySem.W.Frag) (vs : List V) (H1 : Hp) (R : It → Hp → Prop) : Prop := ∃ (x : Str) (b : Addr) (ys : List V), vs = [.str x, .ref b] ∧ SqT K H1 b ys ∧ R (Zst.ItzS K x b) H1
theorem x_iR1 {a : TA} {R : It → Hp → Prop} (k : a σ H fun xs H1 => R1K xs H1 R) : iRng1 a σ H R := k
theorem x_iL {R : It → Hp → Prop} (k : ta σ H fun x H1 => LK K x H1 R) : iList K ta σ H R := k
theorem x_iZ {a : TA} {R : It → Hp → Prop} (k : a σ H fun xs H1 => ZK K xs H1 R) : Zst.iZipS K a σ H R := k
theorem x_yes {q : Bool → Hp → Prop} (k : q true H) : tYes σ H q := k

theorem lc_rng {m : Int} {j : Nat} {vs : List Nat} (hm : m < 2 ^ 62) (hm0 : -(2 ^ 62) ≤ m) (I : Nat → List V → Hp → Prop) (h0 : I 0 [] H1) (mono : ∀ i acc H H', Tx H H' → I i acc H → I i acc H') (nb : ∀ i acc H, I i acc H → NB (.lst acc) ∧ acc.length < sizeLine)
    (hw : ∀ x, wipe ((wipe σ vs).set j (some x)) vs = wipe σ vs)
    (turn : ∀ (i : Nat) acc H', (i : Int) < m → Ex H1 H' → I i acc H' → ∀ kk : Option V → Hp → Prop, (∀ y H4, Ex H' H4 → I (i + 1) (acc ++ [y]) H4 → kk (some y) H4) → (∀ H4, Ex H' H4 → I (i + 1) acc H4 → kk none H4) →
      t ((wipe σ vs).set j (some (.int (i : Int)))) H' fun b H3 => if b = true then te ((wipe σ vs).set j (some (.int (i : Int)))) H3 (fun y H4 => kk (some y) H4) else kk none H3)
    (k : ∀ p ys H2, Ex H1 H2 → H1 p = none → H2 p = some (.lst ys) → I m.toNat ys H2 → Q (.ref p) H2) : R1K [.int m] H1 fun J H2 => LcGo J (gName j) t te vs σ H2 Q := by
  refine ⟨m, rfl, hm0, hm, lc_any I h0 mono nb (fun i H' hi _ => hi) (fun H' _ => Nat.le_refl _) (fun i acc x H' H'' hi e q y kk k1 k2 => ?_) k⟩
  obtain ⟨rfl, rfl⟩ := y
  have e0 : (0 : Int) + (i : Int) = (i : Int) := Int.zero_add _
  rw [e0]
  exact ⟨hw _, turn i acc _ (by omega) e q kk k1 k2⟩
theorem lc_lst {xs : List V} {j : Nat} {vs : List Nat} (hx : H1 a = some (.lst xs)) (nbx : NB (.lst xs)) (I : Nat → List V → Hp → Prop) (h0 : I 0 [] H1) (mono : ∀ i acc H H', Tx H H' → I i acc H → I i acc H') (nb : ∀ i acc H, I i acc H → NB (.lst acc) ∧ acc.length < sizeLine)
    (hw : ∀ x, wipe ((wipe σ vs).set j (some x)) vs = wipe σ vs)
    (turn : ∀ (i : Nat) x acc H', xs[i]? = some x → Ex H1 H' → I i acc H' → ∀ kk : Option V → Hp → Prop, (∀ y H4, Ex H' H4 → I (i + 1) (acc ++ [y]) H4 → kk (some y) H4) → (∀ H4, Ex H' H4 → I (i + 1) acc H4 → kk none H4) →
      t ((wipe σ vs).set j (some x)) H' fun b H3 => if b = true then te ((wipe σ vs).set j (some x)) H3 (fun y H4 => kk (some y) H4) else kk none H3)
    (k : ∀ p ys H2, Ex H1 H2 → H1 p = none → H2 p = some (.lst ys) → I xs.length ys H2 → Q (.ref p) H2) : LK K (.ref a) H1 fun J H2 => LcGo J (gName j) t te vs σ H2 Q := by
  have hq : ∀ H', Ex H1 H' → SqL K H' a xs := fun H' e => SqL.of (e.kp _ _ hx nbx)
  refine ⟨a, rfl, ⟨xs, SqL.of hx⟩, lc_any (n := xs.length) I h0 mono nb (fun i H' hi e => ⟨xs, xs[i], hq H' e, by simp [hi]⟩) (fun H' e => ⟨xs, hq H' e, Nat.le_refl _⟩) (fun i acc x H' H'' hi e q y kk k1 k2 => ?_) k⟩
  obtain ⟨rfl, y⟩ := y
  exact ⟨hw _, turn i x acc _ (y xs (hq _ e)) e q kk k1 k2⟩
theorem lc_zip {x : Str} {ys : List V} {j1 j2 n : Nat} {vs : List Nat} (hn : (x.cps.size = n ∧ n ≤ ys.length) ∨ (ys.length = n ∧ n ≤ x.cps.size)) (hx : H1 a = some (.tup ys)) (I : Nat → List V → Hp → Prop) (h0 : I 0 [] H1) (mono : ∀ i acc H H', Tx H H' → I i acc H → I i acc H') (nb : ∀ i acc H, I i acc H → NB (.lst acc) ∧ acc.length < sizeLine)
    (hw : ∀ x y, wipe (((wipe σ vs).set j1 (some x)).set j2 (some y)) vs = wipe σ vs)
    (turn : ∀ (i : Nat) c y acc H', x.cps[i]? = some c → ys[i]? = some y → Ex H1 H' → I i acc H' → ∀ kk : Option V → Hp → Prop, (∀ y H4, Ex H' H4 → I (i + 1) (acc ++ [y]) H4 → kk (some y) H4) → (∀ H4, Ex H' H4 → I (i + 1) acc H4 → kk none H4) →
      t (((wipe σ vs).set j1 (some (.str ⟨#[c]⟩))).set j2 (some y)) H' fun b H3 => if b = true then te (((wipe σ vs).set j1 (some (.str ⟨#[c]⟩))).set j2 (some y)) H3 (fun y H4 => kk (some y) H4) else kk none H3)
    (k : ∀ p ys H2, Ex H1 H2 → H1 p = none → H2 p = some (.lst ys) → I n ys H2 → Q (.ref p) H2) : ZK K [.str x, .ref a] H1 fun J H2 => LcGo J (gTup K 2 (gCons (gName j1) (gCons (gName j2) gNil))) t te vs σ H2 Q := by
  have hq : ∀ H', Ex H1 H' → SqT K H' a ys := fun H' e => SqT.of (e.kp _ _ hx NB.tup)
  refine ⟨x, a, ys, rfl, SqT.of hx, lc_any (n := n) I h0 mono nb (fun i H' hi e => ?_) (fun H' e => ⟨ys, hq H' e, hn⟩) (fun i acc v H' H'' hi e q y kk k1 k2 => ?_) k⟩
  · have h1 : i < x.cps.size := by omega
    have h2 : i < ys.length := by omega
    exact ⟨ys, x.cps[i], ys[i], hq H' e, by simp [h1], by simp [h2]⟩
  · obtain ⟨T, c, y, rfl, hT, rfl, hc, hy⟩ := y
    have e2 : Ex H' (upd H' T (.tup [.str ⟨#[c]⟩, y])) := Ex.new hT
    refine ⟨T, _, rfl, SqT.of upd_same, rfl, _, _, rfl, _, _, rfl, rfl, hw _ _, ?_⟩
    exact turn i c y acc _ hc (hy ys (hq _ e)) (e.trans e2) (mono _ _ _ _ e2.tx q) kk (fun y H4 f g => k1 y H4 (e2.trans f) g) (fun H4 f g => k2 H4 (e2.trans f) g)

/-! ### dicts of the module -/
def rNID (K : PySem.W.Frag) (d : Addr) : R2 := fun x y H Q => ∃ (z : Str) (r : Option Value), x = .str z ∧ y = .ref d ∧ PySem.W.nsIn K d z = some r ∧ Q (.bl (!r.isSome)) H
def rIID (K : PySem.W.Frag) (d : Addr) : R2 := fun x y H Q => ∃ (z : Str) (r : Option Value), x = .str z ∧ y = .ref d ∧ PySem.W.nsIn K d z = some r ∧ Q (.bl r.isSome) H
theorem x_NID {d : Addr} {z : Str} {r : Option Value} (h : PySem.W.nsIn K d z = some r) (k : Q (.bl (!r.isSome)) H) : rNID K d (.str z) (.ref d) H Q := ⟨z, r, rfl, rfl, h, k⟩
theorem x_IID {d : Addr} {z : Str} {r : Option Value} (h : PySem.W.nsIn K d z = some r) (k : Q (.bl r.isSome) H) : rIID K d (.str z) (.ref d) H Q := ⟨z, r, rfl, rfl, h, k⟩
theorem x_ixD {w : World} {d : Addr} {z : Str} (h : KDct K w d z v) (k : Q v H) : rIxD K w (.ref d) (.str z) H Q := ⟨d, z, v, rfl, rfl, h, k⟩
theorem kdct_of {w : World} {d : Addr} {es : Array DictEntry} {n : Nat} {z : Str} {u : Value} (D : KDict K w d es n) (h : PySem.W.nsIn K d z = some (some u)) (r : RelV v u) : KDct K w d z v := ⟨es, n, u, D.at_, D.lit, h, r⟩
theorem x_NIDt {d : Addr} {z : Str} (h : PySem.W.nsIn K d z = some none) (k : Q (.bl true) H) : rNID K d (.str z) (.ref d) H Q := ⟨z, none, rfl, rfl, h, k⟩
theorem x_NIDf {d : Addr} {z : Str} {u : Value} (h : PySem.W.nsIn K d z = some (some u)) (k : Q (.bl false) H) : rNID K d (.str z) (.ref d) H Q := ⟨z, some u, rfl, rfl, h, k⟩
theorem x_IIDt {d : Addr} {z : Str} {u : Value} (h : PySem.W.nsIn K d z = some (some u)) (k : Q (.bl true) H) : rIID K d (.str z) (.ref d) H Q := ⟨z, some u, rfl, rfl, h, k⟩
theorem x_IIDf {d : Addr} {z : Str} (h : PySem.W.nsIn K d z = some none) (k : Q (.bl false) H) : rIID K d (.str z) (.ref d) H Q := ⟨z, none, rfl, rfl, h, k⟩
theorem x_ixDs {w : World} {d : Addr} {z y : Str} {es : Array DictEntry} {n : Nat} (D : KDict K w d es n) (h : ∃ t, PySem.W.nsIn K d z = some (some (.str y t))) (k : Q (.str y) H) : rIxD K w (.ref d) (.str z) H Q := by
  obtain ⟨t, h⟩ := h
  exact ⟨d, z, .str y, rfl, rfl, kdct_of (v := .str y) D h ⟨t, rfl⟩, k⟩
/-! ### in -/
def rInS : R2 := fun x y H Q => ∃ i j, x = .str i ∧ y = .str j ∧ Q (.bl (!(Builtin.Str.occurrences j i 0 j.length 1).isEmpty)) H
theorem x_InSt {i j : Str} (h : (Builtin.Str.occurrences j i 0 j.length 1).isEmpty = false) (k : Q (.bl true) H) : rInS (.str i) (.str j) H Q := ⟨i, j, rfl, rfl, by rw [h]; exact k⟩
theorem x_InSf {i j : Str} (h : (Builtin.Str.occurrences j i 0 j.length 1).isEmpty = true) (k : Q (.bl false) H) : rInS (.str i) (.str j) H Q := ⟨i, j, rfl, rfl, by rw [h]; exact k⟩
theorem x_EqSt {i j : Str} (h : i = j) (k : Q (.bl true) H) : rEq (.str i) (.str j) H Q := ⟨rfl, by rw [decide_eq_true (by rw [h])]; exact k⟩
theorem x_EqSf {i j : Str} (h : i ≠ j) (k : Q (.bl false) H) : rEq (.str i) (.str j) H Q := ⟨rfl, by rw [decide_eq_false (fun e => h (V.str.inj e))]; exact k⟩
theorem x_NeSt {i j : Str} (h : i ≠ j) (k : Q (.bl true) H) : rNe (.str i) (.str j) H Q := ⟨rfl, by rw [decide_eq_false (fun e => h (V.str.inj e))]; exact k⟩
theorem x_NeSf {i j : Str} (h : i = j) (k : Q (.bl false) H) : rNe (.str i) (.str j) H Q := ⟨rfl, by rw [decide_eq_true (by rw [h])]; exact k⟩
theorem inV_ints {n : Int} {ns : List Int} : inV (.int n) (ns.map V.int) = decide (n ∈ ns) := by
  unfold inV
  rw [List.any_map]
  rw [Bool.eq_iff_iff, List.any_eq_true, decide_eq_true_eq]
  constructor
  · rintro ⟨m, h1, h2⟩
    have e : m = n := by simpa [eqV] using h2
    exact e ▸ h1
  · intro h
    exact ⟨n, h, by simp [eqV]⟩
theorem flat_ints {ns : List Int} : (ns.map V.int).all flatV = true := by
  rw [List.all_map]
  exact List.all_eq_true.mpr fun _ _ => rfl
theorem x_notInI {n : Int} {ns : List Int} (h : H p = some (.lst (ns.map V.int))) (k : Q (.bl (!decide (n ∈ ns))) H) : rIn K true (.int n) (.ref p) H Q :=
  ⟨p, _, rfl, .inl (SqL.of h), rfl, flat_ints, by rw [if_pos rfl, inV_ints]; exact k⟩
theorem x_inTt {xs : List V} (h : H p = some (.tup xs)) (hv : flatV v = true) (ha : xs.all flatV = true) (e : inV v xs = true) (k : Q (.bl true) H) : rIn K false v (.ref p) H Q := ⟨p, _, rfl, .inr (SqT.of h), hv, ha, by rw [if_neg Bool.false_ne_true, e]; exact k⟩
theorem x_inTf {xs : List V} (h : H p = some (.tup xs)) (hv : flatV v = true) (ha : xs.all flatV = true) (e : inV v xs = false) (k : Q (.bl false) H) : rIn K false v (.ref p) H Q := ⟨p, _, rfl, .inr (SqT.of h), hv, ha, by rw [if_neg Bool.false_ne_true, e]; exact k⟩
/-! ### tuples, lists -/
theorem x_slT {xs : List V} {lo hi : Option Int} (h : H a = some (.tup xs)) (hw : ¬ (HT.sIx xs.length 0 lo = 0 ∧ HT.sIx xs.length xs.length hi = xs.length)) (k : JustNew (.tup (cutV xs lo hi)) H Q) : rSlT K (.ref a) lo hi H Q := ⟨a, xs, rfl, SqT.of h, hw, k⟩
theorem x_catT {xs ys : List V} (h : H a = some (.tup xs)) (h' : H b = some (.tup ys)) (n1 : xs ≠ []) (n2 : ys ≠ []) (l : xs.length + ys.length ≤ sizeLine) (k : JustNew (.tup (xs ++ ys)) H Q) : rCatT K (.ref a) (.ref b) H Q := ⟨a, b, xs, ys, rfl, rfl, SqT.of h, SqT.of h', n1, l, fun e => absurd e n2, fun _ => k⟩
theorem x_cat {xs ys : List V} (h : H a = some (.lst xs)) (h' : H b = some (.lst ys)) (l : xs.length + ys.length ≤ sizeLine) (k : JustNew (.lst (xs ++ ys)) H Q) : rCat (.ref a) (.ref b) H Q := ⟨a, b, xs, ys, rfl, rfl, h, h', l, k⟩
def SortK (ns : List Int) (H : Hp) (Q : VK) : Prop := ∀ (ns' : List Int) (p : Addr), ns'.Perm ns → ns'.Pairwise (· ≤ ·) → H p = none → Q (.ref p) (upd H p (.lst (ns'.map V.int)))
theorem x_sorted {ns : List Int} (h : H a = some (.lst (ns.map V.int))) (l : ns.length < 64) (k : ∀ (ns' : List Int) (p : Addr) (H1 : Hp), ns'.Perm ns → ns'.Pairwise (· ≤ ·) → Ex H H1 → H p = none → H1 p = some (.lst (ns'.map V.int)) → Q (.ref p) H1) : rSorted K [.ref a] H Q :=
  ⟨a, ns, rfl, SqL.of h, l, fun ns' p h1 h2 hp => k ns' p _ h1 h2 (Ex.new hp) hp upd_same⟩
/-! ### loops -/
def ForGo (J : It) (g : TG) (tb : TS) (D : Ends) (σ : L2.St) (H1 : Hp) : Prop := ∃ W : Nat → Nat → L2.St → Hp → Prop, (∃ m, W 0 m σ H1) ∧ ∀ i m σ H, W i m σ H →
      (J.stop i H ∧ D.nx σ H) ∨ (J.go i H ∧ ∃ N : L2.St → Hp → Prop, (∀ σ' H', N σ' H' → ∃ m', m' < m ∧ W (i + 1) m' σ' H') ∧ ∀ v H', J.yld i H v H' → g v σ H' fun σ2 H2 => tb { D with nx := N, ct := N, bk := D.nx } σ2 H2)
theorem x_for {wi : TI} {g : TG} {tb : TS} (k : wi σ H fun J H1 => ForGo J g tb D σ H1) : tFor wi g tb D σ H := k
theorem for_rng {m : Int} {j : Nat} {tb : TS} (hm : m < 2 ^ 62) (hm0 : -(2 ^ 62) ≤ m) (Pv : Nat → L2.St → Hp → Prop) (h0 : Pv 0 σ H1)
    (hs : ∀ (i : Nat) σ H, (i : Int) < m → Pv i σ H → tb { D with nx := Pv (i + 1), ct := Pv (i + 1), bk := D.nx } (σ.set j (some (.int (i : Int)))) H) (hd : ∀ σ H, Pv m.toNat σ H → D.nx σ H) : R1K [.int m] H1 fun J H2 => ForGo J (gName j) tb D σ H2 := by
  refine ⟨m, rfl, hm0, hm, for_range Pv h0 (fun i σ H hi q => ?_) hd⟩
  have e0 : (0 : Int) + (i : Int) = (i : Int) := Int.zero_add _
  show tb { D with nx := Pv (i + 1), ct := Pv (i + 1), bk := D.nx } (σ.set j (some (.int ((0 : Int) + (i : Int))))) H
  rw [e0]
  exact hs i σ H (by omega) q
theorem for_lst {xs : List V} {j : Nat} {tb : TS} (hx : H1 a = some (.lst xs)) (Pv : Nat → L2.St → Hp → Prop) (h0 : Pv 0 σ H1) (hl : ∀ i σ H, i ≤ xs.length → Pv i σ H → H a = some (.lst xs))
    (hs : ∀ (i : Nat) x σ H, xs[i]? = some x → Pv i σ H → tb { D with nx := Pv (i + 1), ct := Pv (i + 1), bk := D.nx } (σ.set j (some x)) H) (hd : ∀ σ H, Pv xs.length σ H → D.nx σ H) : LK K (.ref a) H1 fun J H2 => ForGo J (gName j) tb D σ H2 :=
  ⟨a, rfl, ⟨xs, SqL.of hx⟩, for_list Pv h0 (fun i σ H hi q => SqL.of (hl i σ H hi q)) (fun i x σ H h q => hs i x σ H h q) hd⟩
/-! ### methods -/
theorem x_bm {T : String} {r : V → List V → Hp → VK → Prop} {a : TA} (k : ta σ H fun x H1 => tyV K T x H1 ∧ a σ H1 fun xs H2 => r x xs H2 Q) : tBM K T r ta a σ H Q := k
theorem tyL {xs : List V} (h : H p = some (.lst xs)) : tyV K "list" (.ref p) H := .inl ⟨rfl, _, SqL.of h⟩
def rInsert : V → List V → Hp → VK → Prop := fun x vs H Q => ∃ (l : Addr) (xs : List V) (i : Int) (y : V), x = .ref l ∧ vs = [.int i, y] ∧ H l = some (.lst xs) ∧ xs.length < sizeLine ∧ 0 ≤ i ∧ i < 2 ^ 63 ∧ Q .non (upd H l (.lst (xs.take i.toNat ++ [y] ++ xs.drop i.toNat)))
theorem x_insert {xs : List V} {i : Int} (h : H l = some (.lst xs)) (n : xs.length < sizeLine) (h0 : 0 ≤ i) (h1 : i < 2 ^ 63) (k : Q .non (upd H l (.lst (xs.take i.toNat ++ [v] ++ xs.drop i.toNat)))) : rInsert (.ref l) [.int i, v] H Q := ⟨l, xs, i, v, rfl, rfl, h, n, h0, h1, k⟩
/-! ### list(range(n)) -/
theorem x_lstRg {te : L2.St → Hp → (Int → Int → Hp → Prop) → Prop} (k : te σ H fun a b H1 => RgOk a b ∧ JustNew (.lst (rgV a b)) H1 Q) : tLstRg te σ H Q := k
theorem x_callS {sp : Sp} {E : XK} {a : TA} (k : a σ H fun vs H1 => sp vs H1 Q E) : tCall sp [] E a σ H Q := by
  show a σ H fun vs H1 => sp (vs ++ []) H1 Q E
  have e : (fun (vs : List V) (H1 : Hp) => sp (vs ++ []) H1 Q E) = fun vs H1 => sp vs H1 Q E := by
    funext vs H1
    rw [List.append_nil]
  rw [e]
  exact k
theorem x_gConsE {g : TG} {gs : TGs} {ws vs : List V} {q : L2.St → Hp → Prop} (h : ws = v :: vs) (k : g v σ H fun σ' H' => gs vs σ' H' q) : gCons g gs ws σ H q := by rw [h]; exact x_gCons k
theorem x_gNilE {ws : List V} {q : L2.St → Hp → Prop} (h : ws = []) (k : q σ H) : gNil ws σ H q := by rw [h]; exact x_gNil k
theorem x_iteTe {c : Bool} (h : c = true) (k : A) : if c = true then A else B := by rw [if_pos h]; exact k
theorem x_iteFe {c : Bool} (h : c = false) (k : B) : if c = true then A else B := by rw [if_neg (by rw [h]; exact Bool.false_ne_true)]; exact k
theorem x_rg1 {q : Int → Int → Hp → Prop} (k : ta σ H fun x H1 => ∃ n, x = .int n ∧ q 0 n H1) : tRg1 ta σ H q := k
end
section
variable {X : Cx}
theorem c_notInD {d : Addr} {es : Array DictEntry} {n : Nat} (D : KDict X.K X.w d es n) : OpR X (compareOp .NotIn) (rNID X.K d) := op_notIn_kd D
theorem c_inD {d : Addr} {es : Array DictEntry} {n : Nat} (D : KDict X.K X.w d es n) : OpR X (compareOp .In) (rIID X.K d) := op_in_kd D
theorem pg_tupB {sB : Shared} {HB : Hp} {scope : Scope} {cenv : Env} {fp : List Addr} {es : List Expr} {k : Nat} {t : TGs} {n : Nat} {pos : Pos} (hc : X.calm = true) (h : PGs (X.blk sB HB scope cenv fp) es t)
    (hn : (assignEach es (X.blk sB HB scope cenv fp).env).length = n := by rfl) (hst : (assignEach es (X.blk sB HB scope cenv fp).env).findIdx? (·.1) = none := by rfl) : PG (X.blk sB HB scope cenv fp) (.Tuple es k pos) (gTup X.K n t) := pg_tup (X := X.blk sB HB scope cenv fp) hc h hn hst
theorem c_inS : OpR X (compareOp .In) rInS := op_in_str
theorem c_insert : MtR X "list.insert" rInsert := mt_insert
end
end Sx

set_option Elab.async false
set_option linter.all false
set_option maxRecDepth 100000
set_option maxHeartbeats 2000000
namespace Ow
open PySem PySem.Spec PyProof.Rows L2 ItX

/-! ### len(set(xs)), xs a list of ints -/
def dis (ns : List Int) : Nat := (PyProof.Rows.firstMet (fun i => ns.getD i 0) ns.length).length
def tLenSetI (K : PySem.W.Frag) (ta : TE) : TE := fun σ H Q => ta σ H fun x H1 => ∃ (l : Addr) (ns : List Int), x = .ref l ∧ SqL K H1 l (ns.map V.int) ∧ ns.length ≤ 1000 ∧ Q (.int (dis ns)) H1
section
variable {X : Cx}
theorem pe_lenSetI {a : Expr} {ta : TE} {p p2 q pos : Pos} (hc : X.calm = true) (hg : Gl X "len") (hm : X.mg "len" = none) (hg2 : Gl X "set") (hm2 : X.mg "set" = none) (ha : PE X a ta)
    (na : starEach [a] X.env = (false, eval a X.env) :: starEach [] X.env := by rfl) : PE X (.Call (.Name "len" p) [.Call (.Name "set" p2) [a] [] q] [] pos) (tLenSetI X.K ta) := by
  constructor
  intro pins s σ H Q I h
  refine Call_ (ld_blt I hg hm boot_len (PyProof.Rows.callWith_builtin1 (PyProof.Rows.args_cons ?_ rfl) rfl rfl))
  refine Call_ (ld_blt I hg2 hm2 boot_set (PyProof.Rows.callWith_type1 (PyProof.Rows.args_cons (thn (ha.run pins s σ H _ I h) ?_) na) na rfl))
  rintro v s1 ⟨x, H1, I1, r1, l, ns, rfl, hq, h1, q1⟩
  refine PyProof.Rows.args_nil ?_
  cases r1
  obtain ⟨its, r, pl, hz⟩ := I1.list hq
  have hl : its.toArray.size = ns.length := by rw [List.size_toArray, ← r.length, List.length_map]
  refine PySem.call_set_list (I1.ok.hd hc) pl.isList (by simpa using intsAre_of r) (by rw [hl]; exact Nat.lt_of_le_of_lt (Nat.succ_le_succ h1) (by decide)) fun h' tk hS hk => PyProof.Rows.args_nil ?_
  rw [hl] at hS
  obtain ⟨o, es, ep, t, ho, hex, hd, _, _, _, hf, hn⟩ := hS
  have I2 : Inv X pins σ H1 { s1 with heap := h', toks := tk } := I1.kept fun b o e => hk b o (Heap.lt_size e) e
  have hle : es.size ≤ 100000 := by
    rw [hn]
    refine Nat.le_trans (PyProof.Rows.firstMet_length_le _ _) (by omega)
  exact call_len_set ho hex hd hf (by omega) ⟨.int (dis ns), H1, I2.tok _, ⟨_, by rw [hn]; rfl⟩, q1⟩
end

/-! ### the iterator of a tuple -/
def itT (l : Addr) : Obj := { cls := .type "tuple_iterator", data := .fields #[.ref l, .int 0 0] }
def ItT (l it : Addr) : HO := .ext fun h => h.get? it = some (itT l)
theorem itT_ok {P : Program} {w : World} {H : Hp} {h : Heap} {l it : Addr} (e : h.get? it = some (itT l)) : ObjOk P w H h it (ItT l it) := ⟨e, ⟨_, e⟩, fun _ _ q k => k _ q⟩
def rIterT (K : PySem.W.Frag) (n : Nat) : List V → Hp → VK → Prop := fun xs H Q => ∃ (l : Addr) (zs : List V), xs = [.ref l] ∧ SqT K H l zs ∧ ∀ it, H it = none → n ≤ it → Q (.ref it) (upd H it (ItT l it))
theorem iter_tup {prog : Program} {w : World} {A : Around} {E : Value → Shared → Prop} {s : Shared} {l : Addr} {items : Array Value} {Q : Value → Shared → Prop} (hl : s.heap.IsTuple l items) (h : Q (.ref s.heap.objs.size) { s with heap := s.heap.push (itT l) }) :
    wpAny (model prog w) A (call (.builtin "iter") [.ref l]) Q E s := by
  refine Calls.call_function_entry (by decide +kernel) (by decide +kernel) PySem.W.kdk_entry_iter (PySem.W.kdk_args_iter _) ?_
  unfold Builtin.«iter»
  refine wpAny_bind (m := someArgs "iter" 1 2 _) (wpAny_of_eq (a := [Value.ref l]) (by first | rfl | kernel_rfl!) ?_)
  show wpAny _ _ (pyIter (.ref l) >>= _) _ _ _
  exact wpAny_bind (wpAny_pyIter_tuple hl (wpAny_pure ⟨_, rfl, h⟩))
section
variable {X : Cx}
theorem call_iterT : CallR X (.builtin "iter") (rIterT X.K X.s_0.heap.objs.size) := by
  rintro pins s σ H xs us Q I r ⟨l, zs, rfl, hq, q⟩
  obtain ⟨u, rfl, ru⟩ := vals1 r
  cases ru
  obtain ⟨its, rv, p, hz⟩ := I.tuple hq
  refine iter_tup (show s.heap.IsTuple l its.toArray from p) ?_
  exact ⟨.ref s.heap.objs.size, _, I.laid (t' := s.toks) (fun b u e => Heap.get?_push_of_some _ e) (Nat.le_refl _) (itT_ok (Heap.get?_push_size _ rfl)), rfl, q _ (I.hok.fresh (Nat.le_refl _)) I.sz⟩
end

/-- a def called at ONE state: what its body's reading ends in may speak of that state -/
theorem fn_at {CX : CXT} {P : Program} {w : World} {K : PySem.W.Frag} {mg : Str → Option Value} {base : Heap} {k : Nat} {f : Addr} {x qual : Str} {st : Stmt} {fd : FuncData} {N ps : List Str} (F : Fun K x qual st f fd) (S : FnScope N ps (defScope st))
    {A : Around} {outer : List Env} {s : Shared} {H : Hp} {args : Args} {us : List Value} {vs : List V} {Q : VK} {E : XK} (hl : vs.length = ps.length) (hr : Room (k + 1) A) (e0 : Env0 P w K mg base A outer s H) (hb : BindsTo s fd args (ps.zip us)) (r : Vals vs us)
    (hbody : ∀ cdv, ∃ t, PSs (cxOf CX P w K mg base N qual (defScope st) f cdv A outer s H E) (defBody st) t ∧ t { nx := fun _ H' => Q .non H', rt := Q } (start N vs) H) :
    codeAny (model P w) A (.call (.ref f) args) (CR CX outer P w H s Q E) s := by
  obtain ⟨oc, od, kV, doc, pm, an, cdv, ct, osl, rfl, lk, hcd⟩ := F.ex
  have sub : ∀ b o, base.get? b = some o → s.heap.get? b = some o := fun b o e => (e0.bs b o e).1
  have KS := e0.mod.kin.keeps sub
  refine codeAny_call_function hr.depth (KS _ _ lk) rfl S.co S.gen rfl (PySem.W.codeRec_of KS hcd) (hb _ _ _ _ ?_)
  refine wpAny_newFunctionEnv_cells S.kind (fun y hy => ?_) fun env he sB call => ?_
  · have m := S.par y.1 (List.of_mem_zip (show (y.1, y.2) ∈ _ from hy)).1
    exact m.imp id fun q => ⟨q, PySem.W.cellsFrom_some _ _ _ (.inl q)⟩
  · subst he
    obtain ⟨t, ht, hq⟩ := hbody cdv
    refine ⟨(e0.mod.nolimit.keeps sub).keeps call.toInCall.keep, codeAny_func (wpAny_mono (ht.run [] sB _ H _ (inv_start S hr.hd e0 hl r call) hq) (fun way sE z => ?_) fun _ _ z => z)⟩
    match way, z with
    | .ret _, ⟨v, _, H', J, rv, q⟩ => exact ⟨v, H', J.os, J.bare, J.base, J.hok, rv, q⟩
    | .next, ⟨_, H', J, q⟩ => exact ⟨.non, H', J.os, J.bare, J.base, J.hok, rfl, q⟩
    | .brk, ⟨_, _, _, q⟩ => exact q.elim
    | .cont, ⟨_, _, _, q⟩ => exact q.elim

/-! ### for x in o, o of a class whose __iter__ hands a tuple's iterator out -/
/-- a def of one parameter (st, at fi), asked for an object of the class, hands out the iterator of the tuple that its field holds, young at that call -/
def ItDef (P : Program) (w : World) (K : PySem.W.Frag) (mg : Str → Option Value) (base : Heap) (k : Nat) (C fi : Addr) (fld qual : Str) (st : Stmt) (N : List Str) : Prop :=
  ∀ (cdv : Value) (A : Around) (outer : List Env) (s : Shared) (H : Hp) (E : XK) (a dx : Addr) (fs : List (Str × V)) (l : Addr) (zs : List V) (Q : VK), Room k (A.deeper (envOfC qual (defScope st) s.heap.objs.size fi cdv)) →
    H a = some (.ins C dx fs) → fs.lookup fld = some (.ref l) → SqT K H l zs → (∀ it, H it = none → s.heap.objs.size ≤ it → Q (.ref it) (upd H it (ItT l it))) →
      ∃ t, PSs (cxOf CX0 P w K mg base N qual (defScope st) fi cdv A outer s H E).nox (defBody st) t ∧ t { nx := fun _ H' => Q .non H', rt := Q } (start N [.ref a]) H
def iOwnT (K : PySem.W.Frag) (C : Addr) (fld : Str) (ta : TE) : TI := fun σ H R => ta σ H fun x H1 => ∃ (a dx : Addr) (fs : List (Str × V)) (l : Addr) (zs : List V), x = .ref a ∧ H1 a = some (.ins C dx fs) ∧ fs.lookup fld = some (.ref l) ∧ SqT K H1 l zs ∧ R (Itt K l) H1
section
variable {X : Cx} {k : Nat} {C fi : Addr} {fld x qual p1 : Str} {st : Stmt} {N : List Str} {fd : FuncData} {tg e : Expr} {ta : TE}
theorem pi_own (he : PE X e ta) (F : Fun X.K x qual st fi fd) (S : FnScope N [p1] (defScope st)) (bI : Binds X.K fd [p1] []) (D : ItDef X.prog X.w X.K X.mg X.base k C fi fld qual st N) (hr : Room (k + 1) X.A) (hx : Passes CX0 X fun _ _ _ => False)
    (hit : PySem.W.findIn X.K (.ref C) "__iter__" = some (some (.ref fi))) (hitF : PySem.W.isFn X.K (.ref fi) = true) : PI X tg e (iOwnT X.K C fld ta) := by
  refine ⟨fun pins s σ H R I h => thn (he.run pins s σ H _ I h) fun v s1 ⟨y, H1, I1, r1, a, dx, fs, l, zs, ey, ea, ef, hz, q⟩ => ?_⟩
  subst ey
  cases r1
  obtain ⟨mA, J, _⟩ := ins_get I1.hok ea
  obtain ⟨od, J, _⟩ := J.look
  obtain ⟨m, hF⟩ := I1.fr
  have one : Vals [V.ref a] [Value.ref a] := .cons rfl .nil
  have bb : BindsTo s1 fd ⟨[.ref a], []⟩ ([p1].zip [Value.ref a]) := by
    have b := bI s1 [.ref a] I1.kIn rfl
    simpa using b
  have go := fn_at (CX := CX0) (E := fun _ _ _ => False) (Q := fun v H' => ∃ it, v = .ref it ∧ H1 it = none ∧ s1.heap.objs.size ≤ it ∧ H' = upd H1 it (ItT l it)) F S (vs := [.ref a]) rfl hr I1.env0 bb one fun cdv => by
    obtain ⟨t, pt, qt⟩ := D cdv X.A X.stack s1 H1 (fun _ _ _ => False) a dx fs l zs (fun v H' => ∃ it, v = .ref it ∧ H1 it = none ∧ s1.heap.objs.size ≤ it ∧ H' = upd H1 it (ItT l it)) (hr.deeper _) ea ef hz fun it n o => ⟨it, rfl, n, o, rfl⟩
    exact ⟨t, pt.nox, qt⟩
  refine PySem.W.owit_iter hF I1.ok.mod.kin J hit hitF (wpAny_call (codeAny_mono go fun r s2 hq => ?_))
  cases r with
  | error er => exact hx pins σ H1 s1 er s2 I1 hq
  | ok fl =>
    cases fl with
    | next => exact False.elim hq
    | brk => exact False.elim hq
    | cont => exact False.elim hq
    | ret u =>
      obtain ⟨_, _, I2, rv, it, rfl, en, old, rfl⟩ := I1.after hq
      cases rv
      have g : s2.heap.get? it = some (itT l) := (I2.hok it (ItT l it) upd_same).1
      have hT : s2.TypeIs (.ref it) "tuple_iterator" := ⟨_, g, rfl⟩
      have e2 : dropH (upd H1 it (ItT l it)) it = H1 := dropH_upd en
      have d := inv_drop I2 (upd_same : upd H1 it (ItT l it) it = some (ItT l it))
      have f := inv_fp I2 (upd_same : upd H1 it (ItT l it) it = some (ItT l it)) (Nat.le_trans I1.sz old)
      rw [e2] at d f
      refine wpAny_specialOf hT PySem.F.slot_tuple_iterator_next.lookup ?_
      refine ⟨it, [it], _, _, H1, rfl, d, turn_tuple l it, ⟨_, g, rfl, rfl⟩, fun b hb => ?_, q⟩
      have e : b = it := by simpa using hb
      rw [e]
      exact f
end
end Ow

set_option Elab.async false
set_option linter.all false
set_option maxRecDepth 100000
set_option maxHeartbeats 2000000
namespace Sx
open PySem PySem.Spec PyProof.Rows L2
section
variable {H H' H1 H2 : Hp} {p a b c l : Addr} {o u : HO} {K : PySem.W.Frag} {σ : L2.St} {Q : VK} {v w : V} {D : Ends} {t : TT} {ta tb te : TE} {A B : Prop}
theorem x_iteDt {i j : Int} (h : decide (i = j) = true) (k : A) : if decide (i = j) = true then A else B := by rw [if_pos h]; exact k
theorem x_iteDf {i j : Int} (h : decide (i = j) = false) (k : B) : if decide (i = j) = true then A else B := by rw [if_neg (by rw [h]; exact Bool.false_ne_true)]; exact k
theorem x_iteNt {i j : Int} (h : decide (i = j) = false) (k : A) : if (!decide (i = j)) = true then A else B := by rw [h]; exact x_iteT k
theorem x_iteNf {i j : Int} (h : decide (i = j) = true) (k : B) : if (!decide (i = j)) = true then A else B := by rw [h]; exact x_iteF k
/-! ### isinstance -/
theorem x_isiI {i : Int} {n : String} {r : Bool} (h : kitB "int" n = some r) (k : Q (.bl r) H) : rIsi K [.int i, .ty n] H Q := ⟨_, _, _, _, r, rfl, .ty n, .base (.int i), kit_ty h, k⟩
theorem x_isiS {x : Str} {n : String} {r : Bool} (h : kitB "str" n = some r) (k : Q (.bl r) H) : rIsi K [.str x, .ty n] H Q := ⟨_, _, _, _, r, rfl, .ty n, .base (.str x), kit_ty h, k⟩
theorem x_isiB {x : Bool} {n : String} {r : Bool} (h : kitB "bool" n = some r) (k : Q (.bl r) H) : rIsi K [.bl x, .ty n] H Q := ⟨_, _, _, _, r, rfl, .ty n, .base (.bl x), kit_ty h, k⟩
theorem x_isiT {xs : List V} {n : String} {r : Bool} (hp : H p = some (.tup xs)) (h : kitB "tuple" n = some r) (k : Q (.bl r) H) : rIsi K [.ref p, .ty n] H Q := ⟨_, _, _, _, r, rfl, .ty n, .base (.tup hp), kit_ty h, k⟩
theorem x_isiL {xs : List V} {n : String} {r : Bool} (hp : H p = some (.lst xs)) (h : kitB "list" n = some r) (k : Q (.bl r) H) : rIsi K [.ref p, .ty n] H Q := ⟨_, _, _, _, r, rfl, .ty n, .base (.lst hp), kit_ty h, k⟩
/-- isinstance(a list or a tuple, (list, tuple)) -/
theorem kit_lt : PySem.W.kitAny K (.type "list") [.type "list", .type "tuple"] = some true := kitAny_cons (b := true) (kit_ty (by decide +kernel)) (fun h => nomatch h) (fun _ => rfl)
theorem kit_tt : PySem.W.kitAny K (.type "tuple") [.type "list", .type "tuple"] = some true := kitAny_cons (b := false) (kit_ty (by decide +kernel)) (fun _ => kitAny_cons (b := true) (kit_ty (by decide +kernel)) (fun h => nomatch h) (fun _ => rfl)) (fun h => nomatch h)
theorem x_isi2L {xs : List V} (hp : H p = some (.lst xs)) (hl : H l = some (.tup [.ty "list", .ty "tuple"])) (k : Q (.bl true) H) : rIsiT K [.ref p, .ref l] H Q :=
  ⟨_, l, _, _, _, true, rfl, hl, .cons (.ty _) (.cons (.ty _) .nil), .base (.lst hp), kit_lt, k⟩
theorem x_isi2T {xs : List V} (hp : H p = some (.tup xs)) (hl : H l = some (.tup [.ty "list", .ty "tuple"])) (k : Q (.bl true) H) : rIsiT K [.ref p, .ref l] H Q :=
  ⟨_, l, _, _, _, true, rfl, hl, .cons (.ty _) (.cons (.ty _) .nil), .base (.tup hp), kit_tt, k⟩
/-! ### all, tuple, len -/
theorem x_all {bs : List Bool} (h : H p = some (.lst (bs.map V.bl))) (k : Q (.bl (bs.all id)) H) : rAll K [.ref p] H Q := ⟨p, bs, rfl, SqL.of h, k⟩
theorem x_allT {n : Nat} (h : H p = some (.lst (List.replicate n (.bl true)))) (k : Q (.bl true) H) : rAll K [.ref p] H Q := by
  refine ⟨p, List.replicate n true, rfl, SqL.of (by rw [h, List.map_replicate]), ?_⟩
  rw [show (List.replicate n true).all id = true by simp]
  exact k
def rTupOf (K : PySem.W.Frag) : List V → Hp → VK → Prop := fun xs H Q => ∃ p ys, xs = [.ref p] ∧ ((SqL K H p ys ∧ ∀ l, H l = none → Q (.ref l) (upd H l (.tup ys))) ∨ (SqT K H p ys ∧ Q (.ref p) H))
theorem x_tupOfL {xs : List V} (h : H p = some (.lst xs)) (k : JustNew (.tup xs) H Q) : rTupOf K [.ref p] H Q := ⟨p, xs, rfl, .inl ⟨SqL.of h, k⟩⟩
theorem x_tupOfT {xs : List V} (h : H p = some (.tup xs)) (k : Q (.ref p) H) : rTupOf K [.ref p] H Q := ⟨p, xs, rfl, .inr ⟨SqT.of h, k⟩⟩
def rLenS : List V → Hp → VK → Prop := fun xs H Q => ∃ z, xs = [.str z] ∧ z.length ≤ sizeLine ∧ Q (.int z.length) H
theorem x_lenS {z : Str} (h : z.length ≤ sizeLine) (k : Q (.int z.length) H) : rLenS [.str z] H Q := ⟨z, rfl, h, k⟩
def LenSetK (K : PySem.W.Frag) (x : V) (H1 : Hp) (Q : VK) : Prop := ∃ (l : Addr) (ns : List Int), x = .ref l ∧ SqL K H1 l (ns.map V.int) ∧ ns.length ≤ 1000 ∧ Q (.int (Ow.dis ns)) H1
theorem x_lenSet (k : ta σ H fun x H1 => LenSetK K x H1 Q) : Ow.tLenSetI K ta σ H Q := k
theorem x_lenSetK {ns : List Int} (h : H l = some (.lst (ns.map V.int))) (hl : ns.length ≤ 1000) (k : Q (.int (Ow.dis ns)) H) : LenSetK K (.ref l) H Q := ⟨l, ns, rfl, SqL.of h, hl, k⟩
end
section
variable {X : Cx}
theorem c_tupOf : CallR X (.type "tuple") (rTupOf X.K) := call_tuple_of
theorem c_lenS : CallR X (.builtin "len") rLenS := call_len_str
end
section
variable {H H1 : Hp} {b a : Addr} {K : PySem.W.Frag} {σ : L2.St} {Q : VK} {te : TE}
theorem NB.bls {bs : List Bool} : NB (.lst (bs.map V.bl)) := by
  cases bs with
  | nil => exact NB.len (by decide)
  | cons x xs => exact NB.at0b rfl
/-- a comprehension over zip(a text, a tuple of ints), by what one turn gives -/
theorem zip_gen {x : Str} {ys : List Int} {f : Nat → Int → V} {j1 j2 : Nat} {vs : List Nat} (hx : H1 b = some (.tup (ys.map V.int))) (hn : x.cps.size = ys.length) (h4 : ys.length ≤ 1000)
    (hnb : ∀ i, NB (.lst ((List.zipWith f x.cps.toList ys).take i))) (hw : ∀ u v, wipe (((wipe σ vs).set j1 (some u)).set j2 (some v)) vs = wipe σ vs)
    (hte : ∀ (i c : Nat) (y : Int) (H' : Hp) (Q' : VK), x.cps.toList[i]? = some c → ys[i]? = some y → Q' (f c y) H' → te (((wipe σ vs).set j1 (some (.str ⟨#[c]⟩))).set j2 (some (.int y))) H' Q')
    (k : ∀ p H2, Ex H1 H2 → H1 p = none → H2 p = some (.lst (List.zipWith f x.cps.toList ys)) → Q (.ref p) H2) :
    ZK K [.str x, .ref b] H1 fun J H2 => LcGo J (gTup K 2 (gCons (gName j1) (gCons (gName j2) gNil))) tYes te vs σ H2 Q := by
  have hz : (List.zipWith f x.cps.toList ys).length = ys.length := by rw [List.length_zipWith, Array.length_toList, hn, Nat.min_self]
  refine lc_zip (n := ys.length) (.inl ⟨hn, by rw [List.length_map]; exact Nat.le_refl _⟩) hx (fun i acc _ => acc = (List.zipWith f x.cps.toList ys).take i) (by rw [List.take_zero]) (fun _ _ _ _ _ h => h) (fun i acc _ h => ?_) hw (fun i c y acc H' hc hy e hI kk k1 k2 => ?_) (fun p zs H2 e hp hzs hI => ?_)
  · subst h
    refine ⟨hnb i, Nat.lt_of_le_of_lt (Nat.le_trans (List.length_take_le' _ _) (by rw [hz]; exact h4)) (by decide)⟩
  · rw [List.getElem?_map] at hy
    cases hy' : ys[i]? with
    | none => rw [hy'] at hy; cases hy
    | some n =>
      rw [hy'] at hy
      have en : V.int n = y := Option.some.inj hy
      subst en
      have hc' : x.cps.toList[i]? = some c := by simpa using hc
      refine x_yes (x_iteT (hte i c n H' _ hc' hy' (k1 _ _ (Ex.refl _) ?_)))
      rw [List.take_add_one, hI]
      congr 1
      rw [List.getElem?_zipWith, hc', hy']
      rfl
  · refine k p H2 e hp ?_
    rw [hzs, hI, ← hz, List.take_length]
theorem x_catT0 {xs : List V} (h : H a = some (.tup xs)) (h' : H b = some (.tup [])) (n1 : xs ≠ []) (l : xs.length ≤ sizeLine) (k : Q (.ref a) H) : rCatT K (.ref a) (.ref b) H Q := ⟨a, b, xs, [], rfl, rfl, SqT.of h, SqT.of h', n1, l, fun _ => k, fun e => absurd rfl e⟩
end
/-- a list without repetition has as many different ones as it is long -/
theorem step_new {ns : List Int} {v : Int} (h : v ∉ ns) : step_dedup ns v = ns ++ [v] := by
  unfold step_dedup
  rw [if_neg]
  intro e
  obtain ⟨x, hx, q⟩ := List.any_eq_true.mp e
  have : x = v := by simpa using q
  exact h (this ▸ hx)
theorem fold_new : ∀ (ns acc : List Int), (acc ++ ns).Nodup → ns.foldl step_dedup acc = acc ++ ns
  | [], acc, _ => (List.append_nil acc).symm
  | n :: ns, acc, h => by
    have h2 : n ∉ acc := fun q => by
      have := (List.nodup_append.mp h).2.2 n q n (by simp)
      exact this rfl
    rw [List.foldl_cons, step_new h2, fold_new ns (acc ++ [n]) (by rw [List.append_assoc]; exact h), List.append_assoc]
    rfl
theorem dis_nodup {ns : List Int} (h : ns.Nodup) : Ow.dis ns = ns.length := by
  unfold Ow.dis firstMet
  have e : (List.range ns.length).map (fun i => ns.getD i 0) = ns := by
    apply List.ext_getElem
    · simp
    · intro i h1 h2
      simp at h1
      simp [h1]
  rw [e, fold_new ns [] h, List.nil_append]
theorem x_lenSetN {H : Hp} {K : PySem.W.Frag} {Q : VK} {l : Addr} {ns m : List Int} (h : H l = some (.lst (ns.map V.int))) (pm : ns.Perm m) (nd : m.Nodup) (hl : m.length ≤ 1000) (k : Q (.int ns.length) H) : LenSetK K (.ref l) H Q :=
  x_lenSetK h (by rw [pm.length_eq]; exact hl) (by rw [dis_nodup (pm.nodup_iff.mpr nd)]; exact k)
end Sx

set_option Elab.async false
set_option linter.all false
set_option maxRecDepth 100000
set_option maxHeartbeats 2000000
namespace Ow
open PySem PySem.Spec PyProof.Rows L2 ItX

/-! ### promises of defs that are called where no repr is under way -/
structure FnG (P : Program) (w : World) (K : PySem.W.Frag) (mg : Str → Option Value) (base : Heap) (CX : CXT) (k : Nat) (f : Addr) (fd : FuncData) (ps : List Str) (sp : Sp) : Prop where
  same : ∀ vs H Q E, sp vs H Q E → vs.length = ps.length
  go : ∀ (A : Around) (outer : List Env) (s : Shared) (H : Hp) (args : Args) (us : List Value) (vs : List V) (Q : VK) (E : XK), A.guards = some [] → Room k A → Env0 P w K mg base A outer s H →
    BindsTo s fd args (ps.zip us) → Vals vs us → sp vs H Q E → codeAny (model P w) A (.call (.ref f) args) (CR CX outer P w H s Q E) s
section
variable {P : Program} {w : World} {K : PySem.W.Frag} {mg : Str → Option Value} {base : Heap} {CX : CXT} {k : Nat} {f : Addr} {fd : FuncData} {ps N : List Str} {sp : Sp} {x qual : Str} {st : Stmt}
theorem fnG_of (F : Fun K x qual st f fd) (S : FnScope N ps (defScope st)) (same : ∀ vs H Q E, sp vs H Q E → vs.length = ps.length)
    (body : ∀ (cdv : Value) (A : Around) (outer : List Env) (s : Shared) (H : Hp) (vs : List V) (Q : VK) (E : XK), A.guards = some [] → Room k (A.deeper (envOfC qual (defScope st) s.heap.objs.size f cdv)) → sp vs H Q E →
      ∃ t, PSs (cxOf CX0 P w K mg base N qual (defScope st) f cdv A outer s H E).nox (defBody st) t ∧ t { nx := fun _ H' => Q .non H', rt := Q } (start N vs) H) : FnG P w K mg base CX0 (k + 1) f fd ps sp :=
  ⟨same, fun A outer s H args us vs Q E hg hr e0 hb r h => fn_at F S (same _ _ _ _ h) hr e0 hb r fun cdv => by
    obtain ⟨t, p, q⟩ := body cdv A outer s H vs Q E hg (hr.deeper _) h
    exact ⟨t, p.nox, q⟩⟩
theorem FnG.up {j : Nat} (F : FnG P w K mg base CX j f fd ps sp) (h : j ≤ k) : FnG P w K mg base CX k f fd ps sp := ⟨F.same, fun A outer s H args us vs Q E hg hr => F.go A outer s H args us vs Q E hg (hr.mono h)⟩
theorem FnOk.g (F : FnOk P w K mg base CX k f fd ps sp) : FnG P w K mg base CX k f fd ps sp := ⟨F.len, fun A outer s H args us vs Q E _ => F.run A outer s H args us vs Q E⟩
end
section
variable {X : Cx} {CX : CXT} {k : Nat} {f : Addr} {fd : FuncData} {ps : List Str} {sp : Sp} {dvs : List V} {ds : List Value} {E : XK} {x : Str} {p pos : Pos} {e : Expr} {es : List Expr} {t : TA}
theorem go_fnG {pins : List (Addr × Obj)} {σ : L2.St} {H : Hp} {s : Shared} {Q : VK} {us : List Value} {vs : List V} (hG : X.A.guards = some []) (F : FnG X.prog X.w X.K X.mg X.base CX k f fd ps sp) (hr : Room k X.A) (hb : Binds X.K fd ps ds) (hd : Vals dvs ds)
    (hx : Passes CX X E) (I : Inv X pins σ H s) (r : Vals vs us) (h : sp (vs ++ dvs) H Q E) : wpAny (model X.prog X.w) X.A (call (.ref f) us) (EP X pins σ Q) X.xe s := by
  have both : Vals (vs ++ dvs) (us ++ ds) := r.append hd
  have bb := hb s us I.kIn (both.length.symm.trans (F.same _ _ _ _ h))
  refine wpAny_call (codeAny_mono (F.go X.A X.stack s H ⟨us, []⟩ _ _ Q E hG hr I.env0 bb both h) fun way sE z => ?_)
  match way, z with
  | .error er, z => exact hx pins σ H s er sE I z
  | .ok (.ret u), z => exact I.after z
theorem pe_callG (hG : X.A.guards = some []) (F : FnG X.prog X.w X.K X.mg X.base CX k f fd ps sp) (hr : Room k X.A) (hg : Gl X x) (hm : X.mg x = some (.ref f)) (hk : PySem.W.keepIn X.K (.ref f) = true) (hb : Binds X.K fd ps ds) (hd : Vals dvs ds) (hx : Passes CX X E)
    (ha : PA X (e :: es) t) (nd : (x == ("__debug__" : Str)) = false := by decide) (h1 : starEach (e :: es) X.env = (false, eval e X.env) :: starEach es X.env := by rfl) (h2 : (backTo pos (starEach es X.env)).any (·.1) = false := by rfl) :
    PE X (.Call (.Name x p) (e :: es) [] pos) (tCall sp dvs E t) := by
  constructor
  intro pins s σ H Q I h
  refine wpAny_Call_Name_kw (ld_glob I hg hm ?_ nd)
  have args := ha.run pos pins s σ H _ I h
  refine PySem.W.callWith_K (h₀ := X.base) I.ok.mod.kin hk (thn args ?_) h1 h2
  rintro us s1 ⟨vs, H1, I1, r1, q1⟩
  exact ⟨I1.kIn, go_fnG hG F hr hb hd hx I1 r1 q1⟩
/-! ### repr -/
structure Shw (d : PyData) : Prop where
  able : d.showable = true
  nodict : d.hasDict = false
  short : d.leavesShort 60 = true
  bulk : d.bulk ≤ 100000
  deep : d.depth ≤ 40
theorem Shw.fits {d : PyData} (h : Shw d) : d.shown.length ≤ sizeLine := by
  have a := PyData.shown_le_bulk 60 (by decide) d h.short
  have b := h.bulk
  exact Nat.le_trans a (Nat.le_trans (show _ ≤ 62 * 100000 + 60 by omega) (by decide))
def rRepr (K : PySem.W.Frag) : List V → Hp → VK → Prop := fun xs H Q => ∃ (v : V) (d : PyData), xs = [v] ∧ Dp K H v d ∧ Shw d ∧ Q (.str d.shown) H
theorem call_repr (hG : X.A.guards = some []) (hu : X.A.units + 64 < cLine) : CallR X (.builtin "repr") (rRepr X.K) := by
  rintro pins s σ H xs us Q I r ⟨v, d, rfl, hd, hs, q⟩
  obtain ⟨u, rfl, ru⟩ := vals1 r
  obtain ⟨as, rd⟩ := Dp.reads I d v u hd ru
  have sz := hs.fits
  have dp := hs.deep
  cases rd with
  | none => exact PySem.P.repr_of_none ⟨.str _, H, I.tok _, ⟨_, rfl⟩, by rw [PyData.shown_none] at q; exact q⟩
  | bool b => exact PySem.P.repr_of_bool ⟨.str _, H, I.tok _, ⟨_, rfl⟩, by rw [PyData.shown_bool] at q; exact q⟩
  | int i t => exact PySem.P.repr_of_int (by simpa [PyData.showable] using hs.able) ⟨.str _, H, I.tok _, ⟨_, rfl⟩, by rw [PyData.shown_int] at q; exact q⟩
  | str z t => exact PySem.P.repr_of_str ⟨.str _, H, I.tok _, ⟨_, rfl⟩, by rw [PyData.shown_str] at q; exact q⟩ (by rw [PyData.shown_str] at sz; exact sz)
  | list h1 h2 h3 h4 =>
    exact PySem.repr_of_reads' (.list h1 h2 h3 h4) hs.able (PyData.noDict_hsm hs.nodict) hG (by omega) (fun b o e => e) (fun h' u tk keep => ⟨.str _, H, I.kept keep, ⟨_, rfl⟩, q⟩) sz
  | tuple h1 h2 h3 h4 =>
    exact PySem.repr_of_reads' (.tuple h1 h2 h3 h4) hs.able (PyData.noDict_hsm hs.nodict) hG (by omega) (fun b o e => e) (fun h' u tk keep => ⟨.str _, H, I.kept keep, ⟨_, rfl⟩, q⟩) sz
  | dict h1 h2 h3 h4 h5 => cases hd
end
/-! ### the end of a law that shows data: it is called where no repr is under way -/
section
variable {P : Program} {w : World} {K : PySem.W.Frag} {mg mb : Str → Option Value} {k : Nat} {fa a : Addr} {fd : FuncData} {x : Str} {sp : Sp} {s : Shared} {vs : List Value} {ns : List Int}
/-- from an abstract heap H that tracks at most the script -/
theorem law_from {H : Hp} (KX : K.In s.heap) (hns : s.heap.Ns mainGlobals mg) (hb : s.heap.Ns builtinsNs mb) (hbb : ∀ x : Str, x ≠ "__name__" → mb x = bootBuiltins x) (lim : s.heap.NoLimit) (hg : s.gens = #[])
    (at_ : s.heap.get? a = some { cls := .type "list", data := .seq vs.toArray }) (hr : Room k callerA)
    (F : ∀ base : Heap, K.In base → base.Ns mainGlobals mg → FnG P w K mg base CX0 k fa fd [x] sp) (bind : ∀ (s : Shared) (u : Value), BindsTo s fd ⟨[u], []⟩ [(x, u)])
    (hsp : sp [.ref a] H (fun v _ => v = .bl true) fun _ _ _ => False) (ok : HOk P w H s.heap) (here : ∀ b, H b ≠ none → b = a) (frz : ∀ u, H a = some u → ∃ o xs, u = .frz o (.lst xs)) (out : H a ≠ none → K.lookup a = none) :
    codeAny (model P w) callerA (.call (.ref fa) ⟨[.ref a], []⟩) (fun r s' => r = .ok (.ret (.bool true)) ∧ OldK s.heap s'.heap ∧ s'.os = s.os ∧ AllBare s'.gens) s := by
  have away : ∀ {b : Addr}, b ≠ a → H b = none := fun {b} n => by
    cases e : H b with
    | none => rfl
    | some u => exact absurd (here b (by rw [e]; exact nofun)) n
  -- dicts, and what the module wrote, are not the script
  have dict : ∀ {b : Addr} {o : Obj} {es : Array DictEntry} {n : Nat}, s.heap.get? b = some o → o.data = .dict es n → H b = none := fun {b o es n} e d => away fun z => by
    rw [z, at_] at e
    cases e
    cases d
  have kin : ∀ {b : Addr} {o : Obj}, K.lookup b = some o → H b = none := fun {b o} e => by
    by_cases z : b = a
    · cases q : H a with
      | none => rw [z]; exact q
      | some u =>
        have := out (by rw [q]; exact nofun)
        rw [z, this] at e
        cases e
    · exact away z
  have KB : K.In (hidT s.heap H) := fun b o e => hidT_get (KX b o e) (kin e)
  have nsB : ∀ {b : Addr} {m : Str → Option Value}, s.heap.Ns b m → (hidT s.heap H).Ns b m := fun {b m} ⟨o, es, n, e, d, r⟩ => ⟨o, es, n, hidT_get e (dict e d), d, r⟩
  have md : Mod K mg (hidT s.heap H) := ⟨KB, nsB hns, ⟨mb, nsB hb, hbb⟩, by obtain ⟨mc, l1, l2⟩ := lim; exact ⟨mc, nsB l1, l2⟩⟩
  have env : Env0 P w K mg (hidT s.heap H) callerA [] s H := ⟨rfl, md, fun b o e => of_hidT e, by rw [hidT_size]; exact Nat.le_refl _, trivial, fun b z => (nomatch z), ok, .of_eq hg⟩
  refine codeAny_mono ((F _ KB (nsB hns)).go callerA [] s H ⟨[.ref a], []⟩ [.ref a] [.ref a] _ _ rfl hr env (bind s _) (.cons rfl .nil) hsp) fun way sE z => ?_
  match way, z with
  | .ok (.ret u), ⟨v, H', e1, e2, un, ok', rv, (q : v = .bl true)⟩ =>
    subst q
    cases rv
    refine ⟨rfl, OldK.of_keep fun b o e => ?_, e1, e2⟩
    by_cases z : H b = none
    · exact un.keep b o e z (fun m => nomatch m) (fun m => nomatch m)
    · obtain rfl := here b z
      cases q : H b with
      | none => exact absurd q z
      | some u =>
        obtain ⟨o', xs, rfl⟩ := frz u q
        have f1 := (ok b _ q).1
        rw [e] at f1
        cases f1
        exact (ok' b _ (un.frzs b _ _ q)).1
/-- the promise of the law's def at the heap behind the top -/
theorem law_goes (KX : K.In s.heap) (hns : s.heap.Ns mainGlobals mg) (hb : s.heap.Ns builtinsNs mb) (hbb : ∀ x : Str, x ≠ "__name__" → mb x = bootBuiltins x) (lim : s.heap.NoLimit) (hg : s.gens = #[])
    (at_ : s.heap.get? a = some { cls := .type "list", data := .seq vs.toArray }) (hin : IntsAre vs ns) (hl : ns.length ≤ sizeLine) (hr : Room k callerA)
    (F : ∀ base : Heap, K.In base → base.Ns mainGlobals mg → FnG P w K mg base CX0 k fa fd [x] sp) (bind : ∀ (s : Shared) (u : Value), BindsTo s fd ⟨[u], []⟩ [(x, u)])
    (hsp : ∀ H : Hp, SqL K H a (ns.map V.int) → sp [.ref a] H (fun v _ => v = .bl true) fun _ _ _ => False) :
    codeAny (model P w) callerA (.call (.ref fa) ⟨[.ref a], []⟩) (fun r s' => r = .ok (.ret (.bool true)) ∧ OldK s.heap s'.heap ∧ s'.os = s.os ∧ AllBare s'.gens) s := by
  have rv := vals_ints hin
  cases e : K.lookup a with
  | some o =>
    have e2 := (KX a o e).symm.trans at_
    cases e2
    have sq : SqL K (fun _ => none) a (ns.map V.int) := .inr ⟨_, vs.toArray, _, e, rfl, rfl, rfl, by rw [List.size_toArray, hin.length]; exact hl, rv⟩
    exact law_from (H := fun _ => none) KX hns hb hbb lim hg at_ hr F bind (hsp _ sq) (fun b u q => nomatch q) (fun b q => absurd rfl q) (fun u q => nomatch q) fun q => absurd rfl q
  | none =>
    have one : ∀ {b u}, (fun b => if b = a then some (HO.frz { cls := .type "list", data := .seq vs.toArray } (.lst (ns.map V.int))) else none : Hp) b = some u → b = a ∧ u = .frz { cls := .type "list", data := .seq vs.toArray } (.lst (ns.map V.int)) := fun {b u} q => by
      dsimp only at q
      split at q
      · next h => exact ⟨h, (Option.some.inj q).symm⟩
      · cases q
    refine law_from (H := fun b => if b = a then some (.frz { cls := .type "list", data := .seq vs.toArray } (.lst (ns.map V.int))) else none) KX hns hb hbb lim hg at_ hr F bind (hsp _ (.inl (.inr ⟨_, if_pos rfl⟩))) (fun b u q => ?_) (fun b q => ?_) (fun u q => ?_) fun _ => e
    · obtain ⟨rfl, rfl⟩ := one q
      exact ⟨at_, by rw [List.length_map]; exact hl, vs, _, rv, at_⟩
    · cases z : (fun b => if b = a then some (HO.frz { cls := .type "list", data := .seq vs.toArray } (.lst (ns.map V.int))) else none : Hp) b with
      | none => exact absurd z q
      | some u => exact (one z).1
    · exact ⟨_, _, (one q).2⟩
end
theorem walk_G {l : PySem.W.OpenLaw} {n k : Nat} {q : Program} {loose : List Str} {XP : (Str → Option Value) → Heap → Prop} {YP : World → Heap → Prop} {d : DefRec} {K : Params → PySem.W.Frag} {sp : PySem.W.Frag → Sp} {x : Str}
    (hn : l.most = some n) (small : n ≤ sizeLine) (hdf : d.params.defaults = []) (hr : Room k callerA) (hY : ∀ (w : World) (h : Heap), YP w h → (K w.params).In h)
    (F : ∀ (w : World) (mg : Str → Option Value) (fa : Addr) (h : Heap), (K w.params).In h → h.Ns mainGlobals mg → mg d.name = some (.ref fa) →
      ∃ fd : FuncData, (∀ (s : Shared) (u : Value), BindsTo s fd ⟨[u], []⟩ [(x, u)]) ∧ ∀ base : Heap, (K w.params).In base → base.Ns mainGlobals mg → FnG l.prog w (K w.params) mg base CX0 k fa fd [x] (sp (K w.params)))
    (hsp : ∀ (K : PySem.W.Frag) (H : Hp) (a : Addr) (ns : List Int), ns.length ≤ n → SqL K H a (ns.map V.int) → sp K [.ref a] H (fun v _ => v = .bl true) fun _ _ _ => False) :
    PySem.W.WalkO q loose XP YP l.row.toRowW d [] (fun f vs => PySem.call f vs) := by
  refine Att.attach_call hn hdf fun w s₀ s₁ mg mb fa o pm cd doc a vs ns G Y _ _ _ hmg at_ hin hlen hg => ?_
  obtain ⟨fd, bind, go⟩ := F w mg fa _ (hY w _ Y) G.T.g hmg
  exact law_goes (hY w _ Y) G.T.g G.T.b G.T.builtins G.T.nolimit hg at_ hin (Nat.le_trans hlen small) hr go bind fun H h => hsp _ H a ns hlen h
end Ow

set_option Elab.async false
set_option linter.all false
set_option maxRecDepth 100000
set_option maxHeartbeats 2000000
namespace Sx
open PySem PySem.Spec PyProof.Rows L2
section
variable {H H' H1 H2 : Hp} {p a b c l C dx : Addr} {o u : HO} {K : PySem.W.Frag} {σ : L2.St} {Q : VK} {v w : V} {D : Ends} {t : TT} {ta tb te tv : TE} {A B : Prop} {f : Str} {fs : List (Str × V)}
/-! ### repr -/
theorem x_repr {d : PyData} (h : Dp K H v d) (s : Ow.Shw d) (k : Q (.str d.shown) H) : Ow.rRepr K [v] H Q := ⟨v, d, rfl, h, s, k⟩
/-! ### fields -/
def FldK (K : PySem.W.Frag) (f : Str) (x : V) (H1 : Hp) (Q : VK) : Prop := ∃ a C dx fs v, x = .ref a ∧ H1 a = some (.ins C dx fs) ∧ Cls K C ∧ NoAttr K C f ∧ fs.lookup f = some v ∧ Q v H1
theorem x_fld (k : ta σ H fun x H1 => FldK K f x H1 Q) : tFld K ta f σ H Q := k
theorem x_fldK (h : H a = some (.ins C dx fs)) (c : Cls K C) (n : NoAttr K C f) (l : fs.lookup f = some v) (k : Q v H) : FldK K f (.ref a) H Q := ⟨a, C, dx, fs, v, rfl, h, c, n, l, k⟩
def SetK (K : PySem.W.Frag) (f : Str) (y x : V) (H2 : Hp) (R : Hp → Prop) : Prop := ∃ a C dx fs, x = .ref a ∧ H2 a = some (.ins C dx fs) ∧ Cls K C ∧ NoAttr K C f ∧ fs.length < 1000 ∧ R (upd H2 a (.ins C dx (putF f y fs)))
theorem x_setF (k : tv σ H fun y H1 => ta σ H1 fun x H2 => SetK K f y x H2 fun H3 => D.nx σ H3) : sFld K ta tv f D σ H := k
theorem x_setK {y : V} {R : Hp → Prop} (h : H a = some (.ins C dx fs)) (c : Cls K C) (n : NoAttr K C f) (l : fs.length < 1000) (k : R (upd H a (.ins C dx (putF f y fs)))) : SetK K f y (.ref a) H R := ⟨a, C, dx, fs, rfl, h, c, n, l, k⟩
/-! ### a new instance -/
theorem x_make {sp : Sp} {E : XK} {ts : TA} (k : ts σ H fun vs H1 => ∀ x dx, H1 x = none → H1 dx = none → dx ≠ x → sp (.ref x :: vs) (upd (upd H1 dx (.own x)) x (.ins C dx [])) (fun v H2 => v = .non ∧ Q (.ref x) H2) E) : tMake C sp [] E ts σ H Q := by
  show ts σ H fun vs H1 => ∀ x dx, H1 x = none → H1 dx = none → dx ≠ x → sp (.ref x :: (vs ++ [])) (upd (upd H1 dx (.own x)) x (.ins C dx [])) (fun v H2 => v = .non ∧ Q (.ref x) H2) E
  have e : (fun (vs : List V) (H1 : Hp) => ∀ x dx, H1 x = none → H1 dx = none → dx ≠ x → sp (.ref x :: (vs ++ [])) (upd (upd H1 dx (.own x)) x (.ins C dx [])) (fun v H2 => v = .non ∧ Q (.ref x) H2) E) = fun vs H1 => ∀ x dx, H1 x = none → H1 dx = none → dx ≠ x → sp (.ref x :: vs) (upd (upd H1 dx (.own x)) x (.ins C dx [])) (fun v H2 => v = .non ∧ Q (.ref x) H2) E := by
    funext vs H1
    rw [List.append_nil]
  rw [e]
  exact k
/-! ### dicts, numbers, texts -/
theorem x_dict0 (k : JustNew (.dK []) H Q) : tDNewK σ H Q := k
theorem x_pow {i j : Int} (c : CPow i j) (k : Q (.int (i ^ j.toNat)) H) : rI CPow (fun i j => .int (i ^ j.toNat)) (.int i) (.int j) H Q := ⟨i, j, rfl, rfl, c, k⟩
/-- text * int -/
def rMulS : R2 := fun x y H Q => ∃ (z : Str) (i : Int), x = .str z ∧ y = .int i ∧ z.length ≤ 16 ∧ 0 ≤ i ∧ i ≤ 1048576 ∧ ∀ q : Str, Q (.str q) H
theorem x_mulS {z : Str} {i : Int} (h : z.length ≤ 16) (h0 : 0 ≤ i) (h1 : i ≤ 1048576) (k : ∀ q : Str, Q (.str q) H) : rMulS (.str z) (.int i) H Q := ⟨z, i, rfl, rfl, h, h0, h1, k⟩
end
section
variable {X : Cx}
theorem op_mulS : OpR X (binaryOp .Mult) rMulS := by
  intro pins s σ H x y v u Q I rx ry h
  obtain ⟨z, i, rfl, rfl, hz, h0, h1, q⟩ := h
  obtain ⟨t, rfl⟩ := rx
  obtain ⟨t', rfl⟩ := ry
  exact PySem.W.KXi.mul rfl hz (by omega) h1 fun t2 k _ _ => ⟨.str _, H, I.tok _, ⟨_, rfl⟩, q _⟩
end
/-! ### things of any kind -/
/-- what an own class's instances want for isinstance -/
structure ClsT (K : PySem.W.Frag) (C : Addr) : Prop where
  cl : Cls K C
  ha : PySem.W.findIn K (.ref C) "__class__" = some (some (.builtin "object.__class__"))
  hn : PySem.W.specialIn K (.builtin "object.__class__") "__get__" = some (some (.builtin "getset_descriptor.__get__"))
  htk : PySem.W.takesIn K (.builtin "object.__class__") = some true
  hm : PySem.W.mroIn K C (.type "object") = some true
  kI : PySem.W.kitOne K (.ref C) (.type "int") = some false
  kB : PySem.W.kitOne K (.ref C) (.type "bool") = some false
  kT : PySem.W.kitOne K (.ref C) (.type "tuple") = some false
  kL : PySem.W.kitOne K (.ref C) (.type "list") = some false
  kD : PySem.W.kitOne K (.ref C) (.type "dict") = some false
  kS : PySem.W.kitOne K (.ref C) (.type "str") = some false
inductive Thing (K : PySem.W.Frag) (H : Hp) : V → Prop where
  | int (i : Int) : Thing K H (.int i)
  | bl (b : Bool) : Thing K H (.bl b)
  | non : Thing K H .non
  | str (z : Str) : Thing K H (.str z)
  | lst {a : Addr} {xs : List V} (e : H a = some (.lst xs)) (n : NB (.lst xs)) : Thing K H (.ref a)
  | tup {a : Addr} {xs : List V} (e : H a = some (.tup xs)) : Thing K H (.ref a)
  | dK {a : Addr} {kvs : List (Key × V)} (e : H a = some (.dK kvs)) : Thing K H (.ref a)
  | ins {a C dx : Addr} {fs : List (Str × V)} (e : H a = some (.ins C dx fs)) (c : ClsT K C) : Thing K H (.ref a)
theorem NB.dK {kvs : List (Key × V)} : NB (.dK kvs) := fun _ _ _ _ h => nomatch h
section
variable {H H1 : Hp} {K : PySem.W.Frag} {v : V} {Q : VK}
theorem Thing.mono (h : Thing K H v) (e : Ex H H1) : Thing K H1 v := by
  cases h with
  | int i => exact .int i
  | bl b => exact .bl b
  | non => exact .non
  | str z => exact .str z
  | lst h n => exact .lst (e.kp _ _ h n) n
  | tup h => exact .tup (e.kp _ _ h NB.tup)
  | dK h => exact .dK (e.kp _ _ h NB.dK)
  | ins h c => exact .ins (e.kp _ _ h NB.ins) c
/-- the type of a thing and what isinstance tells of it -/
structure Kinds (K : PySem.W.Frag) (H : Hp) (v : V) (bI bB bT bL bS bD : Bool) : Prop where
  ex : ∃ t, TyX K H v t ∧ PySem.W.kitOne K t (.type "int") = some bI ∧ PySem.W.kitOne K t (.type "bool") = some bB ∧ PySem.W.kitOne K t (.type "tuple") = some bT ∧ PySem.W.kitOne K t (.type "list") = some bL ∧ PySem.W.kitOne K t (.type "str") = some bS ∧ PySem.W.kitOne K t (.type "dict") = some bD
def isBl : V → Bool
  | .bl _ => true
  | _ => false
def isStr : V → Bool
  | .str _ => true
  | _ => false
theorem Kinds.int {i : Int} : Kinds K H (.int i) true false false false false false := ⟨_, .base (.int i), kit_ty (by decide +kernel), kit_ty (by decide +kernel), kit_ty (by decide +kernel), kit_ty (by decide +kernel), kit_ty (by decide +kernel), kit_ty (by decide +kernel)⟩
theorem Kinds.bl {i : Bool} : Kinds K H (.bl i) true true false false false false := ⟨_, .base (.bl i), kit_ty (by decide +kernel), kit_ty (by decide +kernel), kit_ty (by decide +kernel), kit_ty (by decide +kernel), kit_ty (by decide +kernel), kit_ty (by decide +kernel)⟩
theorem Kinds.non : Kinds K H .non false false false false false false := ⟨_, .base .non, kit_ty (by decide +kernel), kit_ty (by decide +kernel), kit_ty (by decide +kernel), kit_ty (by decide +kernel), kit_ty (by decide +kernel), kit_ty (by decide +kernel)⟩
theorem Kinds.str {z : Str} : Kinds K H (.str z) false false false false true false := ⟨_, .base (.str z), kit_ty (by decide +kernel), kit_ty (by decide +kernel), kit_ty (by decide +kernel), kit_ty (by decide +kernel), kit_ty (by decide +kernel), kit_ty (by decide +kernel)⟩
theorem Kinds.lst {a : Addr} {xs : List V} (e : H a = some (.lst xs)) : Kinds K H (.ref a) false false false true false false := ⟨_, .base (.lst e), kit_ty (by decide +kernel), kit_ty (by decide +kernel), kit_ty (by decide +kernel), kit_ty (by decide +kernel), kit_ty (by decide +kernel), kit_ty (by decide +kernel)⟩
theorem Kinds.tup {a : Addr} {xs : List V} (e : H a = some (.tup xs)) : Kinds K H (.ref a) false false true false false false := ⟨_, .base (.tup e), kit_ty (by decide +kernel), kit_ty (by decide +kernel), kit_ty (by decide +kernel), kit_ty (by decide +kernel), kit_ty (by decide +kernel), kit_ty (by decide +kernel)⟩
theorem Kinds.dK {a : Addr} {xs : List (Key × V)} (e : H a = some (.dK xs)) : Kinds K H (.ref a) false false false false false true := ⟨_, .base (.dK e), kit_ty (by decide +kernel), kit_ty (by decide +kernel), kit_ty (by decide +kernel), kit_ty (by decide +kernel), kit_ty (by decide +kernel), kit_ty (by decide +kernel)⟩
theorem Kinds.ins {a C dx : Addr} {fs : List (Str × V)} (e : H a = some (.ins C dx fs)) (c : ClsT K C) : Kinds K H (.ref a) false false false false false false := ⟨_, .base (.ins e c.cl c.ha c.hn c.htk c.hm), c.kI, c.kB, c.kT, c.kL, c.kS, c.kD⟩
theorem Thing.kinds (h : Thing K H v) : ∃ bT bL bD, Kinds K H v (isI v || isBl v) (isBl v) bT bL (isStr v) bD := by
  cases h with
  | int i => exact ⟨_, _, _, Kinds.int⟩
  | bl b => exact ⟨_, _, _, Kinds.bl⟩
  | non => exact ⟨_, _, _, Kinds.non⟩
  | str z => exact ⟨_, _, _, Kinds.str⟩
  | lst h n => exact ⟨_, _, _, Kinds.lst h⟩
  | tup h => exact ⟨_, _, _, Kinds.tup h⟩
  | dK h => exact ⟨_, _, _, Kinds.dK h⟩
  | ins h c => exact ⟨_, _, _, Kinds.ins h c⟩
theorem x_isiInt {bI bB bT bL bS bD : Bool} (h : Kinds K H v bI bB bT bL bS bD) (k : Q (.bl bI) H) : rIsi K [v, .ty "int"] H Q := let ⟨t, ty, e, _⟩ := h.ex; ⟨_, _, t, _, _, rfl, .ty _, ty, e, k⟩
theorem x_isiBool {bI bB bT bL bS bD : Bool} (h : Kinds K H v bI bB bT bL bS bD) (k : Q (.bl bB) H) : rIsi K [v, .ty "bool"] H Q := let ⟨t, ty, _, e, _⟩ := h.ex; ⟨_, _, t, _, _, rfl, .ty _, ty, e, k⟩
theorem x_isiTup {bI bB bT bL bS bD : Bool} (h : Kinds K H v bI bB bT bL bS bD) (k : Q (.bl bT) H) : rIsi K [v, .ty "tuple"] H Q := let ⟨t, ty, _, _, e, _⟩ := h.ex; ⟨_, _, t, _, _, rfl, .ty _, ty, e, k⟩
theorem x_isiLst {bI bB bT bL bS bD : Bool} (h : Kinds K H v bI bB bT bL bS bD) (k : Q (.bl bL) H) : rIsi K [v, .ty "list"] H Q := let ⟨t, ty, _, _, _, e, _⟩ := h.ex; ⟨_, _, t, _, _, rfl, .ty _, ty, e, k⟩
theorem x_isiStr {bI bB bT bL bS bD : Bool} (h : Kinds K H v bI bB bT bL bS bD) (k : Q (.bl bS) H) : rIsi K [v, .ty "str"] H Q := let ⟨t, ty, _, _, _, _, e, _⟩ := h.ex; ⟨_, _, t, _, _, rfl, .ty _, ty, e, k⟩
theorem x_isiDct {bI bB bT bL bS bD : Bool} (h : Kinds K H v bI bB bT bL bS bD) (k : Q (.bl bD) H) : rIsi K [v, .ty "dict"] H Q := let ⟨t, ty, _, _, _, _, _, e⟩ := h.ex; ⟨_, _, t, _, _, rfl, .ty _, ty, e, k⟩
end
/-! ### shown data -/
theorem shw_mk {d : PyData} (h : d.showable = true) (h1 : d.hasDict = false) (h2 : d.leavesShort 60 = true) (h3 : d.bulk ≤ 100000) (h4 : d.depth ≤ 40) : Ow.Shw d := ⟨h, h1, h2, h3, h4⟩
section
variable {H : Hp} {K : PySem.W.Frag} {a : Addr}
theorem dpAll_bls : ∀ bs : List Bool, DpAll K H (bs.map V.bl) (bs.map PyData.bool)
  | [] => .nil
  | b :: bs => .cons (.bl b) (dpAll_bls bs)
theorem dp_bls {bs : List Bool} (h : H a = some (.lst (bs.map V.bl))) : Dp K H (.ref a) (.list (bs.map PyData.bool)) := .lst (SqL.of h) (dpAll_bls bs)
end
theorem bls_show : ∀ bs : List Bool, PyData.showableAll (bs.map PyData.bool) = true ∧ PyData.hasDictAll (bs.map PyData.bool) = false ∧ PyData.leavesShortAll 60 (bs.map PyData.bool) = true ∧ PyData.depthAll (bs.map PyData.bool) = 0
  | [] => ⟨rfl, rfl, rfl, rfl⟩
  | b :: bs => by
    obtain ⟨h1, h2, h3, h4⟩ := bls_show bs
    refine ⟨?_, ?_, ?_, ?_⟩ <;> simp [PyData.showableAll, PyData.hasDictAll, PyData.leavesShortAll, PyData.depthAll, PyData.showable, PyData.hasDict, PyData.leavesShort, PyData.depth, h1, h2, h3, h4]
theorem bls_bulk : ∀ bs : List Bool, PyData.bulkAll (bs.map PyData.bool) ≤ 10 * bs.length
  | [] => Nat.le_refl _
  | b :: bs => by
    have := bls_bulk bs
    simp only [List.map_cons, PyData.bulkAll, PyData.bulk, List.length_cons]
    omega
theorem shw_bls {bs : List Bool} (h : bs.length ≤ 1000) : Ow.Shw (.list (bs.map PyData.bool)) := by
  obtain ⟨h1, h2, h3, h4⟩ := bls_show bs
  have h5 := bls_bulk bs
  refine ⟨?_, ?_, ?_, ?_, ?_⟩
  · simpa [PyData.showable] using h1
  · simpa [PyData.hasDict] using h2
  · simpa [PyData.leavesShort] using h3
  · simp only [PyData.bulk]
    omega
  · simp only [PyData.depth, h4]
    omega
end Sx

set_option Elab.async false
set_option linter.all false
set_option maxRecDepth 100000
set_option maxHeartbeats 2000000
namespace Sx
open PySem PySem.Spec PyProof.Rows L2 StrLaws
section
variable {H H' H1 H2 : Hp} {p a b c l C dx : Addr} {o u : HO} {K : PySem.W.Frag} {σ : L2.St} {Q : VK} {v w : V} {D : Ends} {t : TT} {ta tb te tv : TE} {A B : Prop}
/-! ### loops over tuples -/
def TK (K : PySem.W.Frag) (x : V) (H1 : Hp) (R : It → Hp → Prop) : Prop := ∃ a, x = .ref a ∧ (∃ xs, SqT K H1 a xs) ∧ R (Itt K a) H1
theorem x_iT {R : It → Hp → Prop} (k : ta σ H fun x H1 => TK K x H1 R) : iTup K ta σ H R := k
theorem for_tupl {xs : List V} {j : Nat} {tb : TS} (hx : H1 a = some (.tup xs)) (Pv : Nat → L2.St → Hp → Prop) (h0 : Pv 0 σ H1) (hl : ∀ i σ H, i ≤ xs.length → Pv i σ H → H a = some (.tup xs))
    (hs : ∀ (i : Nat) x σ H, xs[i]? = some x → Pv i σ H → tb { D with nx := Pv (i + 1), ct := Pv (i + 1), bk := D.nx } (σ.set j (some x)) H) (hd : ∀ σ H, Pv xs.length σ H → D.nx σ H) : TK K (.ref a) H1 fun J H2 => ForGo J (gName j) tb D σ H2 :=
  ⟨a, rfl, ⟨xs, SqT.of hx⟩, for_tup Pv h0 (fun i σ H hi q => SqT.of (hl i σ H hi q)) (fun i x σ H h q => hs i x σ H h q) hd⟩
theorem lc_tup {xs : List V} {j : Nat} {vs : List Nat} (hx : H1 a = some (.tup xs)) (I : Nat → List V → Hp → Prop) (h0 : I 0 [] H1) (mono : ∀ i acc H H', Tx H H' → I i acc H → I i acc H') (nb : ∀ i acc H, I i acc H → NB (.lst acc) ∧ acc.length < sizeLine)
    (hw : ∀ x, wipe ((wipe σ vs).set j (some x)) vs = wipe σ vs)
    (turn : ∀ (i : Nat) x acc H', xs[i]? = some x → Ex H1 H' → I i acc H' → ∀ kk : Option V → Hp → Prop, (∀ y H4, Ex H' H4 → I (i + 1) (acc ++ [y]) H4 → kk (some y) H4) → (∀ H4, Ex H' H4 → I (i + 1) acc H4 → kk none H4) →
      t ((wipe σ vs).set j (some x)) H' fun b H3 => if b = true then te ((wipe σ vs).set j (some x)) H3 (fun y H4 => kk (some y) H4) else kk none H3)
    (k : ∀ p ys H2, Ex H1 H2 → H1 p = none → H2 p = some (.lst ys) → I xs.length ys H2 → Q (.ref p) H2) : TK K (.ref a) H1 fun J H2 => LcGo J (gName j) t te vs σ H2 Q := by
  have hq : ∀ H', Ex H1 H' → SqT K H' a xs := fun H' e => SqT.of (e.kp _ _ hx NB.tup)
  refine ⟨a, rfl, ⟨xs, SqT.of hx⟩, lc_any (n := xs.length) I h0 mono nb (fun i H' hi e => ⟨xs, xs[i], hq H' e, by simp [hi]⟩) (fun H' e => ⟨xs, hq H' e, Nat.le_refl _⟩) (fun i acc x H' H'' hi e q y kk k1 k2 => ?_) k⟩
  obtain ⟨rfl, y⟩ := y
  exact ⟨hw _, turn i x acc _ (y xs (hq _ e)) e q kk k1 k2⟩
theorem x_inI {n : Int} (ns : List Int) (h : H p = some (.tup (ns.map V.int))) (k : Q (.bl (decide (n ∈ ns))) H) : rIn K false (.int n) (.ref p) H Q := ⟨p, _, rfl, .inr (SqT.of h), rfl, flat_ints, by rw [if_neg Bool.false_ne_true, inV_ints]; exact k⟩
theorem x_NeIf {i j : Int} (h : i = j) (k : Q (.bl false) H) : rNe (.int i) (.int j) H Q := x_NeI (by rw [decide_eq_true h]; exact k)
theorem x_EqIt {i j : Int} (h : i = j) (k : Q (.bl true) H) : rEq (.int i) (.int j) H Q := x_EqI (by rw [decide_eq_true h]; exact k)
theorem x_powE {i j n : Int} (c : CPow i j) (e : i ^ j.toNat = n) (k : Q (.int n) H) : rI CPow (fun i j => .int (i ^ j.toNat)) (.int i) (.int j) H Q := x_pow c (by rw [e]; exact k)
/-! ### a dict of one pair -/
def DispK (H : Hp) (p : Addr) (ps : List (V × V)) (H2 : Hp) (Q : VK) : Prop := H2 p = some (.dK []) ∧ ∃ kvs : List (Key × V), ps = kvs.map (fun kv => (kV kv.1, kv.2)) ∧ kvs.length ≤ 15 ∧ Q (.ref p) (upd H2 p (.dK (mergeK [] kvs)))
theorem x_disp1 {tk tv : TE} (k : ∀ p H0, Ex H H0 → H p = none → H0 p = some (.dK []) → tk σ H0 fun x H1 => tv σ H1 fun y H2 => DispK H p [(x, y)] H2 Q) : tDisp [(tk, tv)] σ H Q := fun p hp => k p _ (Ex.new hp) hp upd_same
theorem x_dispI {i : Int} {y : V} (h : H2 p = some (.dK [])) (hp : H p = none) (e : Ex H H2) (k : ∀ H3, Ex H H3 → H3 p = some (.dK [(Sum.inl i, y)]) → Q (.ref p) H3) : DispK H p [(.int i, y)] H2 Q := ⟨h, [(Sum.inl i, y)], rfl, (by show 1 ≤ 15; decide), k _ (Ex.mut e hp) upd_same⟩
theorem x_dispS {i : Str} {y : V} (h : H2 p = some (.dK [])) (hp : H p = none) (e : Ex H H2) (k : ∀ H3, Ex H H3 → H3 p = some (.dK [(Sum.inr i, y)]) → Q (.ref p) H3) : DispK H p [(.str i, y)] H2 Q := ⟨h, [(Sum.inr i, y)], rfl, (by show 1 ≤ 15; decide), k _ (Ex.mut e hp) upd_same⟩
/-! ### things that are tuples or none -/
theorem Thing.tupOr (t : Thing K H v) : (∃ p xs, v = .ref p ∧ H p = some (.tup xs)) ∨ (∃ bI bB bL bS bD, Kinds K H v bI bB false bL bS bD) ∧ ∀ p xs, v = .ref p → H p ≠ some (.tup xs) := by
  cases t with
  | int i => exact .inr ⟨⟨_, _, _, _, _, Kinds.int⟩, fun p xs e => by cases e⟩
  | bl b => exact .inr ⟨⟨_, _, _, _, _, Kinds.bl⟩, fun p xs e => by cases e⟩
  | non => exact .inr ⟨⟨_, _, _, _, _, Kinds.non⟩, fun p xs e => by cases e⟩
  | str z => exact .inr ⟨⟨_, _, _, _, _, Kinds.str⟩, fun p xs e => by cases e⟩
  | lst h n => exact .inr ⟨⟨_, _, _, _, _, Kinds.lst h⟩, fun p xs e q => by cases e; rw [h] at q; cases q⟩
  | tup h => exact .inl ⟨_, _, rfl, h⟩
  | dK h => exact .inr ⟨⟨_, _, _, _, _, Kinds.dK h⟩, fun p xs e q => by cases e; rw [h] at q; cases q⟩
  | ins h c => exact .inr ⟨⟨_, _, _, _, _, Kinds.ins h c⟩, fun p xs e q => by cases e; rw [h] at q; cases q⟩
/-- a thing, and so are its items if it is a tuple -/
structure Deep (K : PySem.W.Frag) (H : Hp) (v : V) : Prop where
  th : Thing K H v
  it : ∀ p xs, v = .ref p → H p = some (.tup xs) → ∀ x ∈ xs, Thing K H x
theorem Deep.flat (t : Thing K H v) (n : ∀ p xs, v = .ref p → H p ≠ some (.tup xs)) : Deep K H v := ⟨t, fun p xs e h => absurd h (n p xs e)⟩
theorem Deep.tup {xs : List V} (h : H a = some (.tup xs)) (t : ∀ x ∈ xs, Thing K H x) : Deep K H (.ref a) := ⟨.tup h, fun p ys e q => by
  cases e
  rw [h] at q
  cases q
  exact t⟩
theorem Deep.mono (d : Deep K H v) (e : Ex H H1) : Deep K H1 v := by
  refine ⟨d.th.mono e, fun p xs ev h x hx => ?_⟩
  rcases d.th.tupOr with ⟨p', ys, e1, h1⟩ | ⟨_, no⟩
  · subst ev
    cases e1
    have h2 := e.kp _ _ h1 NB.tup
    rw [h] at h2
    cases h2
    exact (d.it _ _ rfl h1 x hx).mono e
  · subst ev
    have g := d.th
    cases g with
    | lst q n => have := e.kp _ _ q n; rw [h] at this; cases this
    | tup q => exact absurd q (no _ _ rfl)
    | dK q => have := e.kp _ _ q NB.dK; rw [h] at this; cases this
    | ins q c => have := e.kp _ _ q NB.ins; rw [h] at this; cases this
end
/-! ### shown numbers -/
theorem log2_small {n : Nat} (h : n < 10 ^ 59) : n.log2 < 1920 := by
  by_cases h0 : n = 0
  · subst h0; decide
  · rw [Nat.log2_lt h0]
    exact Nat.lt_of_lt_of_le h (Nat.le_trans (show 10 ^ 59 ≤ 2 ^ 200 by decide) (Nat.pow_le_pow_right (by decide) (by decide)))
theorem int_short {i : Int} (h : i.natAbs < 10 ^ 59) : PyData.leavesShort 60 (.int i) = true := by
  simp only [PyData.leavesShort, decide_eq_true_eq]
  have e := int_text_length_le10 (k := 59) (by decide) h
  show (Str.ofString (toString i)).length ≤ 60
  rw [PySem.ofString_length]
  exact e
theorem int_shows {i : Int} (h : i.natAbs < 10 ^ 59) : PyData.showable (.int i) = true := by
  simp only [PyData.showable, decide_eq_true_eq]
  exact log2_small h
theorem shw_int {i : Int} (h : i.natAbs < 10 ^ 59) : Ow.Shw (.int i) := ⟨int_shows h, rfl, int_short h, by simp [PyData.bulk], by simp [PyData.depth]⟩
theorem shw_tup2 {i j : Int} (h : i.natAbs < 10 ^ 59) (h2 : j.natAbs < 10 ^ 59) : Ow.Shw (.tuple [.int i, .int j]) := by
  refine ⟨?_, ?_, ?_, ?_, ?_⟩
  · simp only [PyData.showable, PyData.showableAll, Bool.and_eq_true, and_true]
    exact ⟨by simpa [PyData.showable] using int_shows h, by simpa [PyData.showable] using int_shows h2⟩
  · rfl
  · simp only [PyData.leavesShort, PyData.leavesShortAll, Bool.and_eq_true, and_true]
    exact ⟨by simpa [PyData.leavesShort] using int_short h, by simpa [PyData.leavesShort] using int_short h2⟩
  · simp [PyData.bulk, PyData.bulkAll]
  · simp [PyData.depth, PyData.depthAll]
end Sx

set_option Elab.async false
set_option linter.all false
set_option maxRecDepth 100000
set_option maxHeartbeats 2000000
namespace Sx
open PySem PySem.Spec PyProof.Rows L2
section
variable {H H' H1 H2 : Hp} {p a b c l C dx : Addr} {o u : HO} {K : PySem.W.Frag} {σ : L2.St} {Q : VK} {v w : V} {D : Ends} {t : TT} {ta tb te tv tx ty td : TE} {A B : Prop} {i j : Int} {xs ys : List V}
/-! ### min, max, list, index -/
def rMin2 : List V → Hp → VK → Prop := fun xs H Q => ∃ i j, xs = [.int i, .int j] ∧ Q (.int (if j < i then j else i)) H
def rMax2 : List V → Hp → VK → Prop := fun xs H Q => ∃ i j, xs = [.int i, .int j] ∧ Q (.int (if j > i then j else i)) H
theorem x_min2 (k : Q (.int (if j < i then j else i)) H) : rMin2 [.int i, .int j] H Q := ⟨i, j, rfl, k⟩
theorem x_max2 (k : Q (.int (if j > i then j else i)) H) : rMax2 [.int i, .int j] H Q := ⟨i, j, rfl, k⟩
def rListOf (K : PySem.W.Frag) : List V → Hp → VK → Prop := fun xs H Q => ∃ p ys, xs = [.ref p] ∧ (SqL K H p ys ∨ SqT K H p ys) ∧ JustNew (.lst ys) H Q
theorem x_listOfT (h : H p = some (.tup xs)) (k : JustNew (.lst xs) H Q) : rListOf K [.ref p] H Q := ⟨p, xs, rfl, .inr (SqT.of h), k⟩
theorem x_listOfL (h : H p = some (.lst xs)) (k : JustNew (.lst xs) H Q) : rListOf K [.ref p] H Q := ⟨p, xs, rfl, .inl (SqL.of h), k⟩
def rTupIdx (K : PySem.W.Frag) : V → List V → Hp → VK → Prop := fun x xs H Q => ∃ (p : Addr) (ns : List Int) (n : Int) (j : Nat), x = .ref p ∧ xs = [.int n] ∧ SqT K H p (ns.map V.int) ∧ ns[j]? = some n ∧ (∀ m, m < j → ns[m]? ≠ some n) ∧ Q (.int (j : Nat)) H
theorem x_tupIdx {ns : List Int} {n : Int} (j : Nat) (h : H p = some (.tup (ns.map V.int))) (hj : ns[j]? = some n) (no : ∀ m, m < j → ns[m]? ≠ some n) (k : Q (.int (j : Nat)) H) : rTupIdx K (.ref p) [.int n] H Q := ⟨p, ns, n, j, rfl, rfl, SqT.of h, hj, no, k⟩
/-! ### tuples joined and cut, any -/
theorem x_catA (h : H a = some (.tup xs)) (h' : H b = some (.tup ys)) (l : xs.length + ys.length ≤ sizeLine) (k : ∀ p H1, Ex H H1 → H1 p = some (.tup (xs ++ ys)) → Q (.ref p) H1) : rCatA K (.ref a) (.ref b) H Q := by
  refine ⟨a, b, xs, ys, rfl, rfl, SqT.of h, SqT.of h', l, fun e => ?_, fun _ e => ?_, fun _ _ p hp => k p _ (Ex.new hp) upd_same⟩
  · exact k b H (Ex.refl H) (by rw [h', e]; rfl)
  · exact k a H (Ex.refl H) (by rw [h, e, List.append_nil])
theorem x_slA {lo hi : Option Int} (h : H a = some (.tup xs)) (k : ∀ p H1, Ex H H1 → H1 p = some (.tup (cutV xs lo hi)) → Q (.ref p) H1) : rSlA K (.ref a) lo hi H Q := by
  refine ⟨a, xs, rfl, SqT.of h, fun e => ?_, fun _ p hp => k p _ (Ex.new hp) upd_same⟩
  refine k a H (Ex.refl H) ?_
  rw [h]
  unfold cutV
  rw [e.1, e.2, List.drop_zero, Nat.sub_zero, List.take_length]
/-! ### a dict of four pairs, and get -/
theorem x_disp4 {k1 v1 k2 v2 k3 v3 k4 v4 : TE} (k : ∀ p H0, Ex H H0 → H p = none → H0 p = some (.dK []) → k1 σ H0 fun x1 H1 => v1 σ H1 fun y1 H1 => k2 σ H1 fun x2 H1 => v2 σ H1 fun y2 H1 => k3 σ H1 fun x3 H1 => v3 σ H1 fun y3 H1 => k4 σ H1 fun x4 H1 => v4 σ H1 fun y4 H1 => DispK H p [(x1, y1), (x2, y2), (x3, y3), (x4, y4)] H1 Q) :
    tDisp [(k1, v1), (k2, v2), (k3, v3), (k4, v4)] σ H Q := fun p hp => k p _ (Ex.new hp) hp upd_same
theorem merge4 {z1 z2 z3 z4 : Str} {y1 y2 y3 y4 : V} (h : ([z1, z2, z3, z4] : List Str).Nodup) : mergeK [] [((Sum.inr z1 : Key), y1), (Sum.inr z2, y2), (Sum.inr z3, y3), (Sum.inr z4, y4)] = [(Sum.inr z1, y1), (Sum.inr z2, y2), (Sum.inr z3, y3), (Sum.inr z4, y4)] := by
  simp only [List.nodup_cons, List.mem_cons, List.not_mem_nil, or_false, not_or, not_false_eq_true, List.nodup_nil, and_true] at h
  obtain ⟨⟨n12, n13, n14⟩, ⟨n23, n24⟩, n34⟩ := h
  simp [mergeK, putK, n12, n13, n14, n23, n24, n34]
theorem x_disp4S {z1 z2 z3 z4 : Str} {y1 y2 y3 y4 : V} (h : H2 p = some (.dK [])) (hp : H p = none) (e : Ex H H2) (nd : ([z1, z2, z3, z4] : List Str).Nodup)
    (k : ∀ H3, Ex H H3 → (∀ a xs, H2 a = some (.tup xs) → H3 a = some (.tup xs)) → H3 p = some (.dK [(Sum.inr z1, y1), (Sum.inr z2, y2), (Sum.inr z3, y3), (Sum.inr z4, y4)]) → Q (.ref p) H3) : DispK H p [(.str z1, y1), (.str z2, y2), (.str z3, y3), (.str z4, y4)] H2 Q := by
  refine ⟨h, [(Sum.inr z1, y1), (Sum.inr z2, y2), (Sum.inr z3, y3), (Sum.inr z4, y4)], rfl, (by show 4 ≤ 15; decide), ?_⟩
  refine k _ (Ex.mut e hp) (fun a xs ha => ?_) (by rw [upd_same, merge4 nd])
  rw [upd_ne (ne_of ha h (by intro z; cases z))]
  exact ha
end
end Sx

set_option Elab.async false
set_option linter.all false
set_option maxRecDepth 100000
set_option maxHeartbeats 2000000
/-! a tuple the other way round -/
namespace Rv
open PySem PySem.Spec PyProof.Rows L2
section
variable {prog : Program} {w : World} {A : Around} {E : Value → Shared → Prop} {s : Shared}
theorem adj_back (n : Nat) : Builtin.Slice.sliceAdjust none none (-1) (n : Int) = ((n : Int) - 1, -1) := by
  unfold Builtin.Slice.sliceAdjust
  simp
theorem many_back (n : Nat) : Builtin.Slice.slicePlaces ((n : Int) - 1) (-1) (-1) = n := by
  unfold Builtin.Slice.slicePlaces
  simp
  split <;> omega
theorem fm_congr {f g : Nat → Option Value} : ∀ l : List Nat, (∀ m ∈ l, f m = g m) → l.filterMap f = l.filterMap g
  | [], _ => rfl
  | m :: l, h => by
    rw [List.filterMap_cons, List.filterMap_cons, h m (by simp), fm_congr l fun x hx => h x (by simp [hx])]
theorem pick_back (xs : Array Value) : ((List.range xs.size).filterMap fun (m : Nat) => xs[(((xs.size : Nat) : Int) - 1 + (m : Int) * -1).toNat]?) = xs.toList.reverse := by
  have g := congrArg Array.toList (HT.pick_gen xs.toList.reverse.toArray 0 xs.size)
  simp only [List.drop_zero] at g
  rw [List.take_of_length_le (by simp)] at g
  rw [← g]
  refine fm_congr _ fun m hm => ?_
  have hm' : m < xs.size := List.mem_range.mp hm
  rw [show (((xs.size : Nat) : Int) - 1 + (m : Int) * -1).toNat = xs.size - 1 - m by omega, show (((0 : Nat) : Int) + (m : Int) * 1).toNat = m by omega]
  simp [List.getElem?_reverse, hm']
theorem back_slice {sl : Addr} {vs : Value} {n : Nat} {t : Tok} {Q : Int × Int × Nat → Shared → Prop} (cut : s.heap.IsSliceOf sl .none .none vs) (one : vs = .int (-1) t)
    (fin : Q ((n : Int) - 1, -1, n) s) : wpAny (model prog w) A (Builtin.Slice.sliceApplied (.ref sl) (pure (n : Int))) Q E s := by
  subst one
  obtain ⟨ob, at0, _, parts⟩ := id cut
  unfold Builtin.Slice.sliceApplied Builtin.Slice.sliceFields
  refine wpAny_bind (wpAny_bind (wpAny_field at0 parts (x := .none) rfl (wpAny_bind (wpAny_field at0 parts (x := .none) rfl (wpAny_bind (wpAny_field at0 parts (x := .int (-1) t) rfl (wpAny_pure ?_)))))))
  refine wpAny_bind (HT.slicePart_ (IsPart.int (-1) t) ?_)
  show wpAny _ _ (if ((-1 : Int) == 0) = true then _ else _) _ _ s
  rw [if_neg (by decide)]
  refine wpAny_bind (HT.slicePart_ .none (wpAny_bind (HT.slicePart_ .none (wpAny_bind (wpAny_pure ?_)))))
  show wpAny _ _ (match Builtin.Slice.sliceAdjust none none (-1) (n : Int) with | (x, y) => pure (x, (-1 : Int), Builtin.Slice.slicePlaces x y (-1))) _ _ s
  rw [adj_back]
  show wpAny _ _ (pure ((n : Int) - 1, (-1 : Int), Builtin.Slice.slicePlaces ((n : Int) - 1) (-1) (-1))) _ _ s
  rw [many_back]
  exact wpAny_pure fin
theorem back_tuple {a sl : Addr} {its : Array Value} {vs : Value} {t : Tok} {Q : Value → Shared → Prop} (tup : IsTup s.heap a its) (cut : s.heap.IsSliceOf sl .none .none vs) (one : vs = .int (-1) t) (small : its.size ≤ sizeLine)
    (fin : Q (.ref s.heap.objs.size) { s with heap := s.heap.push { cls := .type "tuple", data := .seq its.toList.reverse.toArray } }) : wpAny (model prog w) A (getItem (.ref a) (.ref sl)) Q E s := by
  have fits : sizeOk (.seq its.toList.reverse.toArray) := by
    show its.toList.reverse.toArray.size ≤ sizeLine
    simpa using small
  obtain ⟨ob, at0, kind, _⟩ := id cut
  have isSl : s.TypeIs (.ref sl) "slice" := ⟨ob, at0, kind⟩
  unfold getItem
  try with_reducible refine wpAny_holding ?_
  first | refine wpAny_bind (wpAny_pure ?_) | skip
  refine wpAny_bind (wpAny_sequenceKey tup.typeIs (by decide) ?_)
  refine wpAny_bind (wpAny_callSpecial?_slot (name := Str.ofString "__getitem__") tup.typeIs PyProof.Rows.slot_tuple_getitem (wpAny_call_entry PyProof.Rows.slot_tuple_getitem tup.typeIs PyProof.Rows.entry_tuple_getitem ?_ (PyProof.Rows.args_tuple_getitem _ _)))
  show wpAny _ _ (Builtin.Tuple.tupleItemsOf (.ref a) >>= _) _ _ s
  refine wpAny_bind (PyProof.Rows.tupleItemsOf_ tup (wpAny_bind (wpAny_typeOf isSl ?_)))
  rw [if_pos (by decide)]
  refine wpAny_bind (back_slice cut one ?_)
  show wpAny _ _ (if ((((its.size : Nat) : Int) - 1) == 0 && (-1 : Int) == 1 && its.size == its.size) = true then _ else _) _ _ s
  rw [if_neg (by simp), pick_back]
  first
    | exact wpAny_bind (m := Builtin.Tuple.tupleExact _) (wpAny_newObj_type (wpAny_pure ⟨_, rfl, wpAny_pure fin⟩) fits)
    | exact wpAny_bind (m := Builtin.Tuple.tupleExact _) (wpAny_newObj_type (wpAny_bind (wpAny_pure (wpAny_pure ⟨_, rfl, wpAny_pure fin⟩))) fits)
    | exact wpAny_bind (wpAny_bind (m := Builtin.Tuple.tupleExact _) (wpAny_newObj_type (wpAny_pure (wpAny_pure ⟨_, rfl, wpAny_pure fin⟩)) fits))
    | exact wpAny_bind (wpAny_bind (m := Builtin.Tuple.tupleExact _) (wpAny_newObj_type (wpAny_pure ⟨_, rfl, wpAny_pure fin⟩) fits))
end
section
variable {X : Cx}
/-- t[::-1], t a tuple -/
def tBackT (K : PySem.W.Frag) (te : TE) : TE := fun σ H Q => te σ H fun x H1 => ∃ a xs, x = .ref a ∧ SqT K H1 a xs ∧ ∀ p, H1 p = none → Q (.ref p) (upd H1 p (.tup xs.reverse))
theorem pe_backT {e : Expr} {te : TE} {k : Nat} {p1 p2 p3 pos : Pos} (he : PE X e te) : PE X (.Subscript e (.Slice none none (some (.UnaryOp .USub (.Constant (.int 1) k p1) p2)) p3) pos) (tBackT X.K te) := by
  constructor
  intro pins s σ H Q I h
  refine Subscript_ (thn (he.run pins s σ H _ I h) ?_)
  rintro v s1 ⟨_, H1, I1, r1, a, xs, rfl, hx, q⟩
  cases r1
  have none1 : PO X none tNoPart := po_none
  have minus : PO X (some (.UnaryOp .USub (.Constant (.int 1) k p1) p2)) (tPart (tUn (rU fun i => .int (-i)) (tC (.int 1)))) := po_some (pe_un un_neg pe_int)
  refine wpAny_Slice (thn (none1.run pins s1 σ H1 (fun o H2 => o = none ∧ H2 = H1) I1 ⟨rfl, rfl⟩) ?_)
  rintro vl s2 ⟨o2, H2, I2, pl, e2, e2'⟩
  subst e2 e2'
  refine thn (none1.run pins s2 σ H2 (fun o H3 => o = none ∧ H3 = H2) I2 ⟨rfl, rfl⟩) ?_
  rintro vu s3 ⟨o3, H3, I3, pu, e3, e3'⟩
  subst e3 e3'
  refine thn (minus.run pins s3 σ H3 (fun o H4 => o = some (-1) ∧ H4 = H3) I3 ⟨1, rfl, -1, rfl, rfl, rfl⟩) ?_
  rintro vs s4 ⟨o4, H4, I4, ps, e4, e4'⟩
  subst e4 e4'
  cases pl
  cases pu
  cases ps with
  | int _ t =>
    have I5 : L2.Inv X pins σ H4 { s4 with heap := s4.heap.push { cls := .type "slice", data := .fields #[.none, .none, .int (-1) t] } } := I4.kept (t' := s4.toks) fun b ob q => Heap.get?_push_of_some _ q
    obtain ⟨its, r, ht, hz⟩ := I5.tuple hx
    have hlen := r.length
    show wpAny (model X.prog X.w) X.A (subscriptTail e (.Slice none none (some (.UnaryOp .USub (.Constant (.int 1) k p1) p2)) p3) (.ref a) (.ref s4.heap.objs.size)) (EP X pins σ Q) X.xe { s4 with heap := s4.heap.push { cls := .type "slice", data := .fields #[.none, .none, .int (-1) t] } }
    refine tail_any (ops := [.ref a, .ref s4.heap.objs.size]) ht.typeIs (PyProof.Rows.slot_tuple_getitem.lookup) ?_ (by with_unfolding_all rfl)
    refine back_tuple ht (Heap.IsSliceOf.new _ .none .none (.int (-1) t)) rfl (by rw [List.size_toArray]; omega) ?_
    refine ⟨.ref _, _, I5.laid (t' := s4.toks) (o := .tup xs.reverse) (fun b ob q => Heap.get?_push_of_some _ q) (Nat.le_refl _) ?_, rfl, q _ (I5.hok.fresh (Nat.le_refl _))⟩
    exact ⟨by rw [List.length_reverse]; exact hz, _, r.reverse, IsTup.new _ _⟩
end
end Rv
namespace Rv
open PySem PySem.Spec PyProof.Rows L2
section
variable {X : Cx}
/-! ### a range as a value, and what is not in it -/
def rRange1 : List V → Hp → VK → Prop := fun vs H Q => ∃ j : Int, vs = [.int j] ∧ ∀ p, H p = none → Q (.ref p) (upd H p (.rng 0 j))
theorem c_range1 : CallR X (.type "range") rRange1 := by
  intro pins s σ H vs us Q I r h
  obtain ⟨j, rfl, q⟩ := h
  obtain ⟨u, rfl, ru⟩ := vals1 r
  obtain ⟨t, rfl⟩ := ru
  refine call_range_1 ⟨.ref s.heap.objs.size, upd H s.heap.objs.size (.rng 0 j), ?_⟩
  refine ⟨I.laid (t' := _) (fun b o e => Heap.get?_push_of_some _ e) (Nat.le_refl _) ⟨_, _, _, Heap.get?_push_size _ rfl⟩, rfl, q _ (I.hok.fresh (Nat.le_refl _))⟩
def rNotInRng : R2 := fun x y H Q => ∃ (i : Int) (a : Addr) (lo hi : Int), x = .int i ∧ y = .ref a ∧ H a = some (.rng lo hi) ∧ Q (.bl (!decide (lo ≤ i ∧ i < hi))) H
theorem op_notInRng : OpR X (compareOp .NotIn) rNotInRng := by
  intro pins s σ H x y v u Q I rx ry h
  obtain ⟨i, a, lo, hi, rfl, rfl, ha, q⟩ := h
  obtain ⟨k, rfl⟩ := rx
  cases ry
  obtain ⟨t1, t2, t3, at0⟩ := I.hok a _ ha
  show wpAny _ _ (do return Value.bool (!(← contains (Value.ref a) (Value.int i k)))) _ _ s
  refine wpAny_bind (wpAny_contains_slot (T := "range") ⟨_, at0, rfl⟩ F.slot_range_contains (call_meets F.slot_range_contains ⟨_, at0, rfl⟩ F.entry_range_contains (F.args_range_contains_2 _ _) (q_contains a lo hi i t1 t2 t3 k) ⟨at0, wpAny_truthy_bool (wpAny_pure ?_)⟩))
  rw [place1]
  exact ⟨.bl _, H, I, rfl, q⟩
/-! ### repr, of an empty dict too -/
def rReprX (K : PySem.W.Frag) : List V → Hp → VK → Prop := fun xs H Q => Ow.rRepr K xs H Q ∨ ∃ a, xs = [.ref a] ∧ H a = some (.dK []) ∧ Q (.str (PyData.dict []).shown) H
theorem call_reprX (hG : X.A.guards = some []) (hu : X.A.units + 64 < cLine) : CallR X (.builtin "repr") (rReprX X.K) := by
  intro pins s σ H xs us Q I r h
  rcases h with h | ⟨a, rfl, ha, q⟩
  · exact Ow.call_repr hG hu pins s σ H xs us Q I r h
  · obtain ⟨u, rfl, ru⟩ := vals1 r
    cases ru
    obtain ⟨_, away, vs, kv, o, es, ep, at0, ex, dat, _, prs, _⟩ := I.hok a _ ha
    cases kv
    have none0 : es.toList = [] := by
      generalize es.toList = l at prs
      cases prs
      rfl
    have rd : Reads s.heap (.ref a) (.dict []) (a :: [] ++ []) := .dict (kvs := []) at0 ex.1 dat (by rw [none0]; exact .nil) (by rw [none0]; exact .nil)
    refine PySem.repr_of_reads' rd rfl (fun _ m => ?_) hG ?_ (fun b o e => e) (fun h' u tk keep => ⟨.str _, H, I.kept keep, ⟨_, rfl⟩, q⟩) ?_
    · rcases List.mem_singleton.mp (by simpa using m) with e
      rw [← e] at away
      simp at away
    · show X.A.units + (PyData.depth (.dict []) + 1) < cLine
      have : PyData.depth (.dict []) = 1 := rfl
      omega
    · show (PyData.dict []).shown.length ≤ sizeLine
      exact Nat.le_trans (show (PyData.dict []).shown.length ≤ 2 by decide) (by decide)
end
end Rv

set_option Elab.async false
set_option linter.all false
set_option maxRecDepth 100000
set_option maxHeartbeats 2000000
namespace Sx
open PySem PySem.Spec PyProof.Rows L2 StrLaws
/-! ### data that stays -/
mutual
def DN (H : Hp) : PyData → V → Prop
  | .none, v => v = .non
  | .bool b, v => v = .bl b
  | .int i, v => v = .int i
  | .str z, v => v = .str z
  | .list ds, v => ∃ a xs, v = .ref a ∧ H a = some (.lst xs) ∧ NB (.lst xs) ∧ DNs H ds xs
  | .tuple ds, v => ∃ a xs, v = .ref a ∧ H a = some (.tup xs) ∧ DNs H ds xs
  | .dict _, _ => False
def DNs (H : Hp) : List PyData → List V → Prop
  | [], xs => xs = []
  | d :: ds, xs => ∃ x r, xs = x :: r ∧ DN H d x ∧ DNs H ds r
end
mutual
theorem DN.dp {H : Hp} {K : PySem.W.Frag} : ∀ (d : PyData) (v : V), DN H d v → Dp K H v d
  | .none, _, h => by rw [DN] at h; rw [h]; exact .non
  | .bool b, _, h => by rw [DN] at h; rw [h]; exact .bl b
  | .int i, _, h => by rw [DN] at h; rw [h]; exact .int i
  | .str z, _, h => by rw [DN] at h; rw [h]; exact .str z
  | .list ds, _, h => by
    rw [DN] at h
    obtain ⟨a, xs, rfl, ha, _, hd⟩ := h
    exact .lst (SqL.of ha) (DNs.dp ds xs hd)
  | .tuple ds, _, h => by
    rw [DN] at h
    obtain ⟨a, xs, rfl, ha, hd⟩ := h
    exact .tup (SqT.of ha) (DNs.dp ds xs hd)
  | .dict _, _, h => by rw [DN] at h; exact h.elim
theorem DNs.dp {H : Hp} {K : PySem.W.Frag} : ∀ (ds : List PyData) (xs : List V), DNs H ds xs → DpAll K H xs ds
  | [], _, h => by rw [DNs] at h; rw [h]; exact .nil
  | d :: ds, _, h => by
    rw [DNs] at h
    obtain ⟨x, r, rfl, h1, h2⟩ := h
    exact .cons (DN.dp d x h1) (DNs.dp ds r h2)
end
mutual
theorem DN.mono {H H1 : Hp} (e : Ex H H1) : ∀ (d : PyData) (v : V), DN H d v → DN H1 d v
  | .none, _, h => by rw [DN] at h ⊢; exact h
  | .bool b, _, h => by rw [DN] at h ⊢; exact h
  | .int i, _, h => by rw [DN] at h ⊢; exact h
  | .str z, _, h => by rw [DN] at h ⊢; exact h
  | .list ds, _, h => by
    rw [DN] at h ⊢
    obtain ⟨a, xs, rfl, ha, nb, hd⟩ := h
    exact ⟨a, xs, rfl, e.kp _ _ ha nb, nb, DNs.mono e ds xs hd⟩
  | .tuple ds, _, h => by
    rw [DN] at h ⊢
    obtain ⟨a, xs, rfl, ha, hd⟩ := h
    exact ⟨a, xs, rfl, e.kp _ _ ha NB.tup, DNs.mono e ds xs hd⟩
  | .dict _, _, h => by rw [DN] at h; exact h.elim
theorem DNs.mono {H H1 : Hp} (e : Ex H H1) : ∀ (ds : List PyData) (xs : List V), DNs H ds xs → DNs H1 ds xs
  | [], _, h => by rw [DNs] at h ⊢; exact h
  | d :: ds, _, h => by
    rw [DNs] at h ⊢
    obtain ⟨x, r, rfl, h1, h2⟩ := h
    exact ⟨x, r, rfl, DN.mono e d x h1, DNs.mono e ds r h2⟩
end
theorem DNs.len {H : Hp} : ∀ {ds : List PyData} {xs : List V}, DNs H ds xs → ds.length = xs.length
  | [], _, h => by rw [DNs] at h; rw [h]; rfl
  | d :: ds, _, h => by
    rw [DNs] at h
    obtain ⟨x, r, rfl, h1, h2⟩ := h
    rw [List.length_cons, List.length_cons, DNs.len h2]
/-- small data -/
structure Sml (b e : Nat) (d : PyData) : Prop where
  able : d.showable = true
  nodict : d.hasDict = false
  short : d.leavesShort 60 = true
  lay : d.canLay0 = true
  bulk : d.bulk ≤ b
  deep : d.depth ≤ e
theorem Sml.up {b e b' e' : Nat} {d : PyData} (h : Sml b e d) (h1 : b ≤ b') (h2 : e ≤ e') : Sml b' e' d := ⟨h.able, h.nodict, h.short, h.lay, Nat.le_trans h.bulk h1, Nat.le_trans h.deep h2⟩
theorem Sml.shw {b e : Nat} {d : PyData} (h : Sml b e d) (h1 : b ≤ 100000) (h2 : e ≤ 40) : Ow.Shw d := ⟨h.able, h.nodict, h.short, Nat.le_trans h.bulk h1, Nat.le_trans h.deep h2⟩
theorem Sml.all {b e : Nat} : ∀ {ds : List PyData}, (∀ d ∈ ds, Sml b e d) → PyData.showableAll ds = true ∧ PyData.hasDictAll ds = false ∧ PyData.leavesShortAll 60 ds = true ∧ PyData.canLayAll0 ds = true ∧ PyData.bulkAll ds ≤ ds.length * (b + 1) ∧ PyData.depthAll ds ≤ e
  | [], _ => by simp [PyData.showableAll, PyData.hasDictAll, PyData.leavesShortAll, PyData.canLayAll0, PyData.bulkAll, PyData.depthAll]
  | d :: ds, h => by
    obtain ⟨h1, h2, h3, h4, h5, h6⟩ := h d (by simp)
    obtain ⟨k1, k2, k3, k4, k5, k6⟩ := Sml.all (ds := ds) fun x hx => h x (by simp [hx])
    refine ⟨?_, ?_, ?_, ?_, ?_, ?_⟩
    · simp [PyData.showableAll, h1, k1]
    · simp [PyData.hasDictAll, h2, k2]
    · simp [PyData.leavesShortAll, h3, k3]
    · simp [PyData.canLayAll0, h4, k4]
    · simp only [PyData.bulkAll, List.length_cons]
      rw [Nat.add_mul, Nat.one_mul]
      omega
    · simp only [PyData.depthAll]
      exact Nat.max_le.mpr ⟨h6, k6⟩
theorem Sml.tup {b e n : Nat} {ds : List PyData} (h : ∀ d ∈ ds, Sml b e d) (hn : ds.length ≤ n) : Sml (n * (b + 1)) (e + 1) (.tuple ds) := by
  obtain ⟨k1, k2, k3, k4, k5, k6⟩ := Sml.all h
  refine ⟨by simpa [PyData.showable] using k1, by simpa [PyData.hasDict] using k2, by simpa [PyData.leavesShort] using k3, by simpa [PyData.canLay0] using k4, ?_, ?_⟩
  · simp only [PyData.bulk]
    exact Nat.le_trans k5 (Nat.mul_le_mul_right _ hn)
  · simp only [PyData.depth]
    omega
theorem Sml.lst {b e n : Nat} {ds : List PyData} (h : ∀ d ∈ ds, Sml b e d) (hn : ds.length ≤ n) : Sml (n * (b + 1)) (e + 1) (.list ds) := by
  obtain ⟨k1, k2, k3, k4, k5, k6⟩ := Sml.all h
  refine ⟨by simpa [PyData.showable] using k1, by simpa [PyData.hasDict] using k2, by simpa [PyData.leavesShort] using k3, by simpa [PyData.canLay0] using k4, ?_, ?_⟩
  · simp only [PyData.bulk]
    exact Nat.le_trans k5 (Nat.mul_le_mul_right _ hn)
  · simp only [PyData.depth]
    omega
theorem Sml.int {i : Int} (h : i.natAbs < 10 ^ 59) : Sml 0 0 (.int i) := ⟨int_shows h, by simp [PyData.hasDict], int_short h, by simp [PyData.canLay0], by simp [PyData.bulk], by simp [PyData.depth]⟩
theorem Sml.bool {b : Bool} : Sml 0 0 (.bool b) := ⟨by simp [PyData.showable], by simp [PyData.hasDict], by simp [PyData.leavesShort], by simp [PyData.canLay0], by simp [PyData.bulk], by simp [PyData.depth]⟩
theorem Sml.none : Sml 0 0 .none := ⟨by simp [PyData.showable], by simp [PyData.hasDict], by simp [PyData.leavesShort], by simp [PyData.canLay0], by simp [PyData.bulk], by simp [PyData.depth]⟩
theorem Sml.str {z : Str} {n : Nat} (ok : PyData.strOk z = true) (h : (z.cps.toList.all fun c => decide (c < 16 ^ 8)) = true) (hn : z.cps.size ≤ n) : Sml n 0 (.str z) := ⟨by simp [PyData.showable], by simp [PyData.hasDict], by simpa only [PyData.leavesShort] using h, by simpa [PyData.canLay0] using ok, by simpa [PyData.bulk] using hn, by simp [PyData.depth]⟩
section
variable {H H1 : Hp} {b a : Addr} {K : PySem.W.Frag} {σ : L2.St} {Q : VK} {te : TE}
/-- a comprehension over zip(a text, a tuple), by what one turn gives -/
theorem zip_genV {x : Str} {ys : List V} {f : Nat → V → V} {j1 j2 : Nat} {vs : List Nat} (hx : H1 b = some (.tup ys)) (hn : x.cps.size = ys.length) (h4 : ys.length ≤ 1000)
    (hnb : ∀ i, NB (.lst ((List.zipWith f x.cps.toList ys).take i))) (hw : ∀ u v, wipe (((wipe σ vs).set j1 (some u)).set j2 (some v)) vs = wipe σ vs)
    (hte : ∀ (i c : Nat) (y : V) (H' : Hp) (Q' : VK), Ex H1 H' → x.cps.toList[i]? = some c → ys[i]? = some y → Q' (f c y) H' → te (((wipe σ vs).set j1 (some (.str ⟨#[c]⟩))).set j2 (some y)) H' Q')
    (k : ∀ p H2, Ex H1 H2 → H1 p = none → H2 p = some (.lst (List.zipWith f x.cps.toList ys)) → Q (.ref p) H2) :
    ZK K [.str x, .ref b] H1 fun J H2 => LcGo J (gTup K 2 (gCons (gName j1) (gCons (gName j2) gNil))) tYes te vs σ H2 Q := by
  have hz : (List.zipWith f x.cps.toList ys).length = ys.length := by rw [List.length_zipWith, Array.length_toList, hn, Nat.min_self]
  refine lc_zip (n := ys.length) (.inl ⟨hn, Nat.le_refl _⟩) hx (fun i acc _ => acc = (List.zipWith f x.cps.toList ys).take i) (by rw [List.take_zero]) (fun _ _ _ _ _ h => h) (fun i acc _ h => ?_) hw (fun i c y acc H' hc hy e hI kk k1 k2 => ?_) (fun p zs H2 e hp hzs hI => ?_)
  · subst h
    refine ⟨hnb i, Nat.lt_of_le_of_lt (Nat.le_trans (List.length_take_le' _ _) (by rw [hz]; exact h4)) (by decide)⟩
  · have hc' : x.cps.toList[i]? = some c := by simpa using hc
    refine x_yes (x_iteT (hte i c y H' _ e hc' hy (k1 _ _ (Ex.refl _) ?_)))
    rw [List.take_add_one, hI]
    congr 1
    rw [List.getElem?_zipWith, hc', hy]
    rfl
  · refine k p H2 e hp ?_
    rw [hzs, hI, ← hz, List.take_length]
end
end Sx

set_option Elab.async false
set_option linter.all false
set_option maxRecDepth 100000
set_option maxHeartbeats 2000000
namespace Sx
open PySem PySem.Spec PyProof.Rows L2 StrLaws
section
variable {H H1 : Hp} {p b a : Addr} {K : PySem.W.Frag} {σ : L2.St} {Q : VK} {te : TE} {v w : V} {xs : List V}
theorem x_notInTt (h : H p = some (.tup xs)) (hv : flatV v = true) (ha : xs.all flatV = true) (e : inV v xs = false) (k : Q (.bl true) H) : rIn K true v (.ref p) H Q := ⟨p, _, rfl, .inr (SqT.of h), hv, ha, by rw [if_pos rfl, e]; exact k⟩
theorem x_notInTf (h : H p = some (.tup xs)) (hv : flatV v = true) (ha : xs.all flatV = true) (e : inV v xs = true) (k : Q (.bl false) H) : rIn K true v (.ref p) H Q := ⟨p, _, rfl, .inr (SqT.of h), hv, ha, by rw [if_pos rfl, e]; exact k⟩
theorem x_notRng {i lo hi : Int} (h : H a = some (.rng lo hi)) (k : Q (.bl (!decide (lo ≤ i ∧ i < hi))) H) : Rv.rNotInRng (.int i) (.ref a) H Q := ⟨i, a, lo, hi, rfl, rfl, h, k⟩
theorem NB.rng {i j : Int} : NB (.rng i j) := fun _ _ _ _ h => nomatch h
theorem x_range1 {j : Int} (k : ∀ p H1, Ex H H1 → H p = none → H1 p = some (.rng 0 j) → Q (.ref p) H1) : Rv.rRange1 [.int j] H Q := ⟨j, rfl, fun p hp => k p _ (Ex.new hp) hp upd_same⟩
theorem x_backT (k : te σ H fun x H1 => ∃ a xs, x = .ref a ∧ SqT K H1 a xs ∧ JustNew (.tup xs.reverse) H1 Q) : Rv.tBackT K te σ H Q := k
theorem x_reprX (h : Ow.rRepr K xs H Q) : Rv.rReprX K xs H Q := .inl h
theorem x_repr0 (h : H a = some (.dK [])) (k : Q (.str (PyData.dict []).shown) H) : Rv.rReprX K [.ref a] H Q := .inr ⟨a, rfl, h, k⟩
/-- equality of data with an empty tuple, an empty list -/
theorem eqv_nilT {ds : List PyData} : PyData.eqv (.tuple ds) (.tuple []) = ds.isEmpty := by
  cases ds <;> simp [PyData.eqv, PyData.eqvAll]
theorem eqv_nilL {ds : List PyData} : PyData.eqv (.list ds) (.list []) = ds.isEmpty := by
  cases ds <;> simp [PyData.eqv, PyData.eqvAll]
end
section
variable {X : Cx}
theorem c_listOf : CallR X (.type "list") (rListOf X.K) := call_list_of
end
end Sx

set_option Elab.async false
set_option maxRecDepth 100000
set_option maxHeartbeats 2000000
set_option linter.all false
/-! errors of the program: try .. except C as e .. else -/
namespace Er
open PySem PySem.Spec PyProof.Rows L2
theorem off_frames {B h : Heap} {l : List Env} {a : Addr} {o : Obj} {vs : Array Value}
    (ff : h.FunFrames B l) (e : h.get? a = some o) (dd : o.data = .fields vs) : a ∉ frs l := by
  intro hm
  obtain ⟨_, o', e', nf⟩ := ff.mem hm
  cases e.symm.trans e'
  exact nf _ dd
section
variable {X : Cx} {x n : Str} {c : Value} {i : Nat} {body suite : List Stmt} {b0 : Stmt} {np pos pos' : Pos}
variable {tb : WX → TS} {ts : Addr → Value → Option Addr → TS} {Wout : WX}
/-- what the handlers are to do with an exception -/
def Met (X : Cx) (pins : List (Addr × Obj)) (D : Ends) (hd : ExceptHandler) (v : Value) (s' : Shared) : Prop :=
  wpAny (model X.prog X.w) X.A (noteFrame v X.env) (fun _ s2 => wpAny (model X.prog X.w) X.A (setFlight v none) (fun _ s3 =>
    wpAny (model X.prog X.w) X.A (handleBy v X.env [hd]) (SP X pins D) X.xe s3) X.xe s2) X.xe s'
/-- the handler alone: an exception in the air of the body is met by `except x as n` -/
theorem caught {pins : List (Addr × Obj)} {D : Ends} {v : Value} {s' : Shared} (ok : X.Ok) (hs : X.stack = X.env :: X.outer)
    (hf : X.env.frame = some X.env.locals) (hN : X.N.Nodup) (hi : X.N[i]? = some n) (hln : X.env.kindOf n = some .local)
    (hc : Names X x c) (tk : L2N.Takes X Wout)
    (hsu : ∀ (a : Addr) (oe : Obj) (cls : Value) (d : Option Addr) (pn : List (Addr × Obj)), L2N.Zn cls d oe →
      (∃ vs, oe.data = .fields vs) → PSs (X.suite a ((a, oe) :: pn)) (b0 :: suite) (ts a cls d))
    {xe : Value → Shared → Prop} (g : L2N.XE (X.tr (X.pn ++ pins) xe) (wAs X.K c i ts Wout D) v s') :
    Met X pins D (.ExceptHandler (some (.Name x np)) (some n) (b0 :: suite) pos') v s' := by
  have hfr : X.A.frames = some (X.env :: X.outer) := by rw [ok.frames, hs]
  obtain ⟨a, B, sI, p1, σ1, H1, cls, d, rfl, J0, nb, up, sky, na, os, ag, b, hb1, yes, no⟩ := g
  have J : Inv X pins σ1 H1 sI := J0.ofTry ok
  have sky1 : Sky B (X.env :: X.outer) a (L2N.Zn cls d) X.env.locals s'.heap := hs ▸ sky
  refine L2N.Sky.land L2N.Zn.steady hfr hf sky1 ?_
  intro h3 f3 u3
  obtain ⟨o3, v3, g3, z3, d3⟩ := f3.there
  have nfr : a ∉ frs (X.env :: X.outer) := off_frames f3.2.2.1 g3 d3
  have nL : a ≠ X.env.locals := by
    intro z
    exact nfr (List.mem_filterMap.mpr ⟨X.env, by simp, by rw [hf, z]⟩)
  have nF : a ∉ X.fs := by
    intro hm
    obtain ⟨e, he, q⟩ := List.mem_filterMap.mp hm
    exact nfr (List.mem_filterMap.mpr ⟨e, by simp [he], q⟩)
  have J3 := J.landed nb f3.1 (up.trans u3) os ag (s' := ⟨h3, s'.gens, s'.drawn, s'.toks, s'.os⟩)
  have S3 := J3.suite g3 d3 na nL nF
  have ty : PySem.W.Looks (model X.prog X.w) h3 (typeOf (.ref a)) cls := by
    intro A Q E s k q
    exact wpAny_typeOf_ref (k _ _ g3) (by rw [z3.1]; exact q)
  refine wpAny_handleBy_cons (codeAny_handlers_test ?_) (fun q => nomatch q)
  have nameIs : ∀ {Q E : Value → Shared → Prop}, Q c ⟨h3, s'.gens, s'.drawn, s'.toks, s'.os⟩ →
      wpAny (model X.prog X.w) (X.A.mark (some (.ref a))) (eval (.Name x np) X.env) Q E ⟨h3, s'.gens, s'.drawn, s'.toks, s'.os⟩ := by
    intro Q E q
    obtain ⟨w1, w2, w3⟩ := hc
    rcases w3 with m | ⟨m, bv, nn⟩
    · exact ld_glob (X := X.suite a ((a, o3) :: (X.pn ++ pins))) S3 w1 m q w2
    · exact ld_blt (X := X.suite a ((a, o3) :: (X.pn ++ pins))) S3 w1 m bv q nn w2
  refine nameIs ((PySem.W.exm_one (M := model X.prog X.w) J3.kIn ty hb1).here ?_)
  cases b
  · -- another's: it flies on
    show wpAny _ X.A (handleBy (.ref a) X.env []) _ _ _
    refine wpAny_handleBy_nil ?_
    obtain ⟨_, _, _, oe, vs, T, oT, ts1, he, hz, hd, h1, _⟩ := id f3
    unfold PySem.passOn
    refine wpAny_bind (wpAny_field he hd h1 ?_)
    rw [if_neg (by simp : ¬ ((Value.ref T == Value.none) = true))]
    have up2 : wpAny (model X.prog X.w) X.A (setFlight (.ref a) X.env.frame) (fun _ s4 =>
        wpAny (model X.prog X.w) X.A (throw (.ref a) : Sem Flow) (SP X pins D) X.xe s4) X.xe ⟨h3, s'.gens, s'.drawn, s'.toks, s'.os⟩ := by
      rw [hf]
      refine HandSPX.setFlight_upZ f3 (fun h4 k4 u4 => wpAny_throw (tk _ _ ?_))
      exact ⟨a, B, sI, pins, σ1, H1, cls, d, rfl, J, nb, (up.trans u3).trans u4, .inr (.inr (hs.symm ▸ k4)), na, os, ag, no rfl⟩
    first
      | exact wpAny_bind (wpAny_pure (wpAny_bind up2))
      | exact wpAny_bind up2
  · -- the suite
    refine codeAny_handlers_suite_as (HandSPX.lands_againZ f3 ?_)
    intro h4 f4 u4
    obtain ⟨o4, v4, g4, z4, d4⟩ := f4.there
    have J4 := J.landed nb f4.1 ((up.trans u3).trans u4) os ag (s' := ⟨h4, s'.gens, s'.drawn, s'.toks, s'.os⟩)
    refine store_ok (X := X.suite a ((a, o4) :: (X.pn ++ pins))) (v := .ref a) (J4.suite g4 d4 na nL nF) hN hi (.inl hln) rfl ?_ (.inr hln)
    intro s5 S5
    have run := (hsu a o4 cls d (X.pn ++ pins) z4 ⟨_, d4⟩).run [] s5 _ H1 _ S5 (yes rfl a na)
    refine wpAny_mono run ?_ (fun _ _ z => z.elim)
    intro f s6 q
    have over : ∀ {σ6 : L2.St} {H6 : Hp} {Q : Shared → Prop}, Inv (X.suite a ((a, o4) :: (X.pn ++ pins))) [] σ6 H6 s6 →
        (∀ s7, Inv X pins (σ6.set i none) H6 s7 → Q s7) →
        wpAny (model X.prog X.w) X.A (do bindName X.env n .none; unbindBehindTheSuite X.env n pos') (fun _ s7 => Q s7) X.xe s6 := by
      intro σ6 H6 Q S6 hq
      exact gone_ok (S6.unsuite ok) hN hi hln hq
    cases f
    case ret u =>
      obtain ⟨w6, σ6, H6, S6, r6, q6⟩ := q
      exact over S6 (fun s7 J7 => ⟨_, _, _, J7, r6, q6⟩)
    all_goals
      obtain ⟨σ6, H6, S6, q6⟩ := q
      exact over S6 (fun s7 J7 => ⟨_, _, J7, q6⟩)
/-- try: body, except x as n: suite, else: orelse -/
theorem ps_try_as {orelse : List Stmt} {u : TS} (ho : PSs X orelse u) (hs : X.stack = X.env :: X.outer)
    (hf : X.env.frame = some X.env.locals) (hN : X.N.Nodup) (hi : X.N[i]? = some n) (hln : X.env.kindOf n = some .local)
    (hc : Names X x c) (tk : L2N.Takes X Wout)
    (hb : ∀ (W : WX) (pn : List (Addr × Obj)) (xe : Value → Shared → Prop), (∀ q ∈ X.pn, q ∈ pn) → L2N.Takes (X.tr pn xe) W →
      PassesOwn (model X.prog X.w) X.A X.env xe → PSs (X.tr pn xe) body (tb W))
    (hsu : ∀ (a : Addr) (oe : Obj) (cls : Value) (d : Option Addr) (pn : List (Addr × Obj)), L2N.Zn cls d oe →
      (∃ vs, oe.data = .fields vs) → PSs (X.suite a ((a, oe) :: pn)) (b0 :: suite) (ts a cls d)) :
    PS X (.Try body [.ExceptHandler (some (.Name x np)) (some n) (b0 :: suite) pos'] orelse [] pos)
      (fun D σ H => tb (wAs X.K c i ts Wout D) { D with nx := u D } σ H) := by
  refine ⟨fun pins s σ H D I h => ?_⟩
  have ok := I.ok
  refine wpAny_Try_except ?_
  have inBody := hb (wAs X.K c i ts Wout D) (X.pn ++ pins) (Met X pins D (.ExceptHandler (some (.Name x np)) (some n) (b0 :: suite) pos')) (fun q hq => List.mem_append_left _ hq)
    (fun v s' g => caught ok hs hf hN hi hln hc tk hsu g) PassesOwn.looking
  refine wpAny_mono (inBody.run [] s σ H { D with nx := u D } (I.toTry _) h) ?_ (fun _ _ z => z)
  intro f s1 q
  cases f
  case next =>
    obtain ⟨σ1, H1, J1, q1⟩ := q
    exact ho.run pins s1 σ1 H1 D (J1.ofTry ok) q1
  case ret v =>
    obtain ⟨w1, σ1, H1, J1, r1, q1⟩ := q
    exact ⟨w1, σ1, H1, J1.ofTry ok, r1, q1⟩
  all_goals
    obtain ⟨σ1, H1, J1, q1⟩ := q
    exact ⟨σ1, H1, J1.ofTry ok, q1⟩
end
end Er

set_option Elab.async false
set_option maxRecDepth 100000
set_option maxHeartbeats 2000000
set_option linter.all false
/-! errors of the program: made, raised, asked for their class, read; defs called while one is handled -/
namespace Er
open PySem PySem.Spec PyProof.Rows L2
/-- what the top says of an error's class -/
structure XC (K : PySem.W.Frag) (C : Addr) : Prop where
  oex : OexC K C
  ga : PySem.W.findIn K (.ref C) "__getattribute__" = some (some (.builtin "BaseException.__getattribute__"))
  gg : PySem.W.findIn K (.ref C) "__getattr__" = some none
  hd : PySem.W.hasDictIn K C = true
  ha : PySem.W.findIn K (.ref C) "__class__" = some (some (.builtin "object.__class__"))
  hn : PySem.W.specialIn K (.builtin "object.__class__") "__get__" = some (some (.builtin "getset_descriptor.__get__"))
  ht : PySem.W.takesIn K (.builtin "object.__class__") = some true
  hm : PySem.W.mroIn K C (.type "object") = some true
theorem XC.xf {K : PySem.W.Frag} {C : Addr} (x : XC K C) : XfC K C := ⟨x.ga, x.gg, x.oex.exC, x.hd⟩
theorem XC.isC {K : PySem.W.Frag} {C : Addr} (x : XC K C) : (PySem.W.clsIn K C).isSome = true := by
  obtain ⟨nm, q, N, bs, bm, sn, sub, ab, col, dd, k0, k1, k2, k3, k5, hC, _⟩ := x.oex.cls
  unfold PySem.W.clsIn
  rw [hC] <;> rfl
theorem takes0 {X : Cx} : L2N.Takes X (fun _ _ _ _ => False) := by
  intro u s' x
  obtain ⟨_, _, _, _, _, _, _, _, _, _, _, _, _, _, _, _, z⟩ := x
  exact z.elim
section
variable {X : Cx} {CX : CXT} {x : Str} {C fI : Addr} {k : Nat} {fd : FuncData} {ps : List Str} {sp : Sp} {e : Expr} {es : List Expr} {ta : TA} {p pos : Pos}
/-- C(a, ..), C's own __init__ keeping sp, while nothing is handled -/
theorem pmk_oex (T : OexC X.K C) (iC : PySem.W.findIn X.K (.ref C) "__init__" = some (some (.ref fI)))
    (tI : PySem.W.typeIn X.K (.ref fI) = some (.type "function")) (F1 : FnOk X.prog X.w X.K X.mg X.base CX k fI fd ps sp)
    (hr : Room (k + 1) X.A) (hb : Binds X.K fd ps []) (hx : Passes CX X (fun _ _ _ => False)) (hg : Gl X x) (hm : X.mg x = some (.ref C))
    (ha : PA X (e :: es) ta) (nd : (x == ("__debug__" : Str)) = false := by decide)
    (h1 : starEach (e :: es) X.env = (false, eval e X.env) :: starEach es X.env := by rfl)
    (h2 : (backTo pos (starEach es X.env)).any (·.1) = false := by rfl) :
    L2N.PMk X (.Call (.Name x p) (e :: es) [] pos) (tMkO C sp [] ta) := by
  intro pins s σ H Q I h
  obtain ⟨nm, q, N, bs, bm, sn, sub, ab, col, dd, k0, k1, k2, k3, k5, hC, hbm⟩ := T.cls
  refine wpAny_Call_Name_kw (ld_glob I hg hm ?_ nd)
  refine PySem.W.callWith_K (h₀ := X.base) I.ok.mod.kin T.kC (thn (ha.run pos pins s σ H _ I h) ?_) h1 h2
  rintro us s1 ⟨vs, H1, I1, r1, hz, q1⟩
  refine ⟨I1.kIn, ?_⟩
  show wpAny _ _ (call (.ref C) us) _ _ _
  obtain ⟨hp, g, dr, tk, os⟩ := s1
  -- two objects are laid: the tuple of the arguments, the error
  let n := hp.objs.size
  let hq : Heap := (hp.push (PySem.W.kdv_tup us)).push (PySem.HandSPX.excO C n)
  have up : ∀ b o, hp.get? b = some o → hq.get? b = some o := by
    intro b o z
    exact Heap.get?_push_of_some _ (Heap.get?_push_of_some _ z)
  have at1 : ((hp.push (PySem.W.kdv_tup us)).push (PySem.HandSPX.excO C hp.objs.size)).get? (hp.objs.size + 1) = some (PySem.HandSPX.excO C hp.objs.size) := by heap_get
  have le1 : n ≤ n + 1 := Nat.le_succ _
  have promise := q1 (n + 1) (I1.hok.fresh le1)
  rw [List.append_nil] at promise
  have I2 : Inv X pins σ (upd H1 (n + 1) (exo (n + 1) C none)) ⟨hq, g, dr, tk, os⟩ := I1.laid (t' := tk) up le1 (exo_ok at1)
  have vals : Vals (V.ref (n + 1) :: vs) (Value.ref (n + 1) :: us) := .cons rfl r1
  have len : (Value.ref (n + 1) :: us ++ []).length = ps.length := by
    rw [List.append_nil, ← vals.length]
    exact F1.len _ _ _ _ promise
  have few : us.length ≤ sizeLine := by
    have a := Paired.length r1
    have b := sizeLine_eq
    omega
  have bnd := hb ⟨hq, g, dr, tk, os⟩ (Value.ref (n + 1) :: us) I2.kIn len
  rw [List.append_nil] at bnd
  have body := F1.run _ X.stack ⟨hq, g, dr, tk, os⟩ _ ⟨Value.ref (n + 1) :: us, []⟩ _ _ _ (fun _ _ _ => False) (hr.make C us []) (I2.env0.make C us []) bnd vals promise
  refine wpAny_call (PySem.HandSPX.call_own F.excBase_ValueError (fun Y => PySem.HandSPX.refsVE_contains Y bm hbm) (I1.kIn _ _ hC)
    (PySem.W.looks_findIn I1.kIn iC) (fun self => PySem.W.bind_fn I1.kIn self tI) few (codeAny_mono body ?_))
  rintro r ⟨h2, g2, d2, t2, os'⟩ way
  match r, way with
  | .error er, way => exact hx pins σ _ _ er _ I2 way
  | .ok (.ret u), ⟨v, H2, os2, bare2, un2, hok2, rv, ev, d, fs, ea, ed, hd1, q2⟩ =>
    subst ev
    refine ⟨rv, ?_⟩
    obtain ⟨t0, G, J, kG, ge, hoe, na⟩ := mk_end0 (d2 := d2) (t2 := t2) I1 le1 up un2 hok2 os2 bare2 ea ed hd1
    refine ⟨n + 1, _, _, ⟨G, g2, d2, t2, os'⟩, _, .ref C, some d, rfl, J, kG, ge, hoe, ⟨rfl, rfl, ?_⟩, rfl, rfl, na, rfl, bare2, raises_own T.exC T.tyC, q2⟩
    intro w z
    cases z
    rfl
/-- C(), C without an __init__ of its own -/
theorem pmk_own0 {bmB : List Value} {B newId initId : String} (F : ExcBaseFacts B newId initId bmB) (q : PySem.W.excIn X.K C bmB newId = true)
    (hm : X.mg x = some (.ref C)) (kC : PySem.W.keepIn X.K (.ref C) = true) (r : Raises X (.ref C)) (hg : Gl X x)
    (nd : (x == ("__debug__" : Str)) = false := by decide) :
    L2N.PMk X (.Call (.Name x p) [] [] pos) (fun _ H Q => Q (.ref C) none H) := by
  intro pins s σ H Q I h
  refine wpAny_Call_Name_kw (ld_glob I hg hm ?_ nd)
  refine PySem.W.callWith_K0 I.kIn kC ?_
  show wpAny _ _ (call (.ref C) []) _ _ _
  obtain ⟨bm, N, nm, qn, bs, hdct, sn, sub, ab, col, dd, k0, k1, k2, k3, k5, mN, hC, hN, hni, T⟩ := exc_obj I.kIn q
  refine wpAny_call_exc_subT F T hC hN hni ?_ (Nat.zero_le _)
  intro h' e hmade
  exact L2N.mk_of I hmade r h (I.hok.gone hmade.new)
end
/-! ### in the suite -/
section
variable {X : Cx} {a : Addr} {cls : Value} {d : Option Addr} {oe : Obj} {pn : List (Addr × Obj)}
/-- isinstance(e, c), e the error that the suite holds, of the class D -/
def rIsX (K : PySem.W.Frag) (cls : Value) (d : Option Addr) (a : Addr) : List V → Hp → VK → Prop := fun xs H Q =>
  ∃ (D : Addr) (c : V) (cv : Value) (b : Bool), cls = .ref D ∧ XC K D ∧ (d = none ∨ ∃ dd fs, d = some dd ∧ H dd = some (.xd fs)) ∧
    xs = [.ref a, c] ∧ (∀ u, RelV c u → u = cv) ∧ PySem.W.kitOne K (.ref D) cv = some b ∧ Q (.bl b) H
theorem call_isX (hz : L2N.Zn cls d oe) (hf : ∃ vs, oe.data = .fields vs) :
    CallR (X.suite a ((a, oe) :: pn)) (.builtin "isinstance") (rIsX X.K cls d a) := by
  intro pins s σ H xs us Q I r h
  obtain ⟨D, c, cv, b, rfl, T, hd, rfl, hcv, e, q⟩ := h
  match us, r with
  | [_, u], .cons rx (.cons rt .nil) =>
    cases rx
    obtain rfl := hcv _ rt
    have here := (I.pin (a, oe) (by simp)).1
    obtain ⟨z1, z2, _⟩ := hz
    obtain ⟨vs, hv⟩ := hf
    have J : ∃ od, PySem.W.InstAt s.heap a oe D od := by
      have no : PySem.W.notCls oe = true := by
        unfold PySem.W.notCls
        rw [hv]
      rcases hd with rfl | ⟨dd, fs, rfl, ed⟩
      · exact ⟨none, here, z1, no, by rw [z2]; trivial⟩
      · have ok : ObjOk X.prog X.w H s.heap dd (.xd fs) := I.hok dd _ ed
        obtain ⟨mA, ⟨o, _, _, ho, _⟩, _⟩ := ok
        exact ⟨some o, here, z1, no, by rw [z2]; exact ho⟩
    obtain ⟨od, J⟩ := J
    have ok := PySem.W.kitx_exc (x := a) (ox := oe) (od := od) T.isC T.ga T.gg T.oex.exC T.ha T.hn T.ht T.hm
    exact PySem.W.kia_one ok I.kIn J e (fun z => nomatch z) (fun tk => ⟨.bl b, H, I.kept (t' := tk) (fun _ _ z => z), rfl, q⟩)
/-- e.f -/
def tXg (K : PySem.W.Frag) (a : Addr) (cls : Value) (d : Option Addr) (f : Str) (te : TE) : TE := fun σ H Q => te σ H fun x H1 =>
  x = .ref a ∧ ∃ (C dd : Addr) (fs : List (Str × V)) (v : V), cls = .ref C ∧ XC K C ∧ PySem.W.findIn K (.ref C) f = some none ∧
    d = some dd ∧ H1 dd = some (.xd fs) ∧ fs.lookup f = some v ∧ Q v H1
theorem pe_xg {e : Expr} {te : TE} {pos : Pos} {n : Str} (hz : L2N.Zn cls d oe) (hf : ∃ vs, oe.data = .fields vs)
    (he : PE (X.suite a ((a, oe) :: pn)) e te) (hb : attributeBase e n X.env (eval e X.env) = eval e X.env := by rfl) :
    PE (X.suite a ((a, oe) :: pn)) (.Attribute e n pos) (tXg X.K a cls d n te) := by
  refine ⟨fun pins s σ H Q I h => ?_⟩
  refine attr_of hb (thn (he.run pins s σ H _ I h) ?_)
  rintro u s1 ⟨x, H1, I1, rx, rfl, C, dd, fs, v, rfl, T, hno, rfl, ed, l, q⟩
  cases rx
  have here := (I1.pin (a, oe) (by simp)).1
  obtain ⟨vs, hv⟩ := hf
  have ok : ObjOk X.prog X.w H1 s1.heap dd (.xd fs) := I1.hok dd _ ed
  obtain ⟨mA, hns, hr⟩ := ok
  obtain ⟨od, ho, hl⟩ := lookIn_ns hns
  obtain ⟨u, hu, ru⟩ := RelO.some_of (v := v) (o := mA n) (by rw [← l]; exact hr n)
  have J : PySem.W.InstAt s1.heap a oe C (some od) := ⟨here, hz.1, by unfold PySem.W.notCls; rw [hv], by rw [hz.2.1]; exact ho⟩
  exact HandSPX.exc_get I1.kIn J T.ga T.gg T.oex.exC (PySem.W.findObj_own T.hd hno rfl (by rw [hl, hu])) (handed_of ru) ⟨v, H1, I1.tok _, ru, q⟩
/-- the suite's context bears the error, whose own context is None -/
theorem hot (hz : L2N.Zn cls d oe) (hf : ∃ vs, oe.data = .fields vs) : L2H.HotC (X.suite a ((a, oe) :: pn)) := by
  obtain ⟨vs, hv⟩ := hf
  exact ⟨(a, oe), ⟨rfl, vs, hv, hz.2.2 vs hv⟩, by simp⟩
end
/-! ### defs called while an error is handled, no repr under way -/
structure FnGH (P : Program) (w : World) (K : PySem.W.Frag) (mg : Str → Option Value) (base : Heap) (CX : CXT) (k : Nat) (f : Addr) (fd : FuncData) (ps : List Str) (sp : Sp) : Prop where
  same : ∀ vs H Q E, sp vs H Q E → vs.length = ps.length
  go : ∀ (A : Around) (outer : List Env) (s : Shared) (H : Hp) (args : Args) (us : List Value) (vs : List V) (Q : VK) (E : XK) (p : Addr × Obj), A.guards = some [] → L2H.RoomH k A → L2H.Hot1 A p →
    L2H.PinOk outer H s p → Env0 P w K mg base A outer s H → BindsTo s fd args (ps.zip us) → Vals vs us → sp vs H Q E → codeAny (model P w) A (.call (.ref f) args) (CR CX outer P w H s Q E) s
section
variable {P : Program} {w : World} {K : PySem.W.Frag} {mg : Str → Option Value} {base : Heap} {CX : CXT} {k : Nat} {f : Addr} {fd : FuncData} {ps N : List Str} {sp : Sp} {x qual : Str} {st : Stmt}
theorem fnGH_of (F : Fun K x qual st f fd) (S : FnScope N ps (defScope st)) (same : ∀ vs H Q E, sp vs H Q E → vs.length = ps.length)
    (body : ∀ (cdv : Value) (A : Around) (outer : List Env) (s : Shared) (H : Hp) (vs : List V) (Q : VK) (E : XK) (p : Addr × Obj), A.guards = some [] → L2H.Hot1 A p →
      L2H.RoomH k (A.deeper (envOfC qual (defScope st) s.heap.objs.size f cdv)) → sp vs H Q E →
      ∃ t, PSs (L2H.cxH CX P w K mg base N qual (defScope st) f cdv A outer s H E p) (defBody st) t ∧ t { nx := fun _ H' => Q .non H', rt := Q } (start N vs) H) :
    FnGH P w K mg base CX (k + 1) f fd ps sp := by
  obtain ⟨oc, od, kV, doc, pm, an, cdv, ct, osl, rfl, lk, hcd⟩ := F.ex
  refine ⟨same, ?_⟩
  intro A outer s H args us vs Q E p hg hr hot pin e0 hb r h
  have sub : ∀ b o, base.get? b = some o → s.heap.get? b = some o := fun b o z => (e0.bs b o z).1
  have KS := e0.mod.kin.keeps sub
  refine codeAny_call_function hr.depth (KS _ _ lk) rfl S.co S.gen rfl (PySem.W.codeRec_of KS hcd) (hb _ _ _ _ ?_)
  refine wpAny_newFunctionEnv_cells S.kind ?_ ?_
  · intro y hy
    have m := S.par y.1 (List.of_mem_zip (show (y.1, y.2) ∈ _ from hy)).1
    exact m.imp id (fun q => ⟨q, PySem.W.cellsFrom_some _ _ _ (.inl q)⟩)
  · intro env he sB call
    subst he
    obtain ⟨t, ht, hq⟩ := body cdv A outer s H vs Q E p hg hot (hr.deeper _) h
    have I := L2H.inv_startH (CX := CX) (E := E) S pin e0 (same _ _ _ _ h) r call
    refine ⟨(e0.mod.nolimit.keeps sub).keeps call.toInCall.keep, codeAny_func (wpAny_mono (ht.run [] sB _ H _ I hq) ?_ (fun _ _ z => z))⟩
    intro way sE z
    match way, z with
    | .ret _, ⟨v, _, H', J, rv, q⟩ => exact ⟨v, H', J.os, J.bare, J.base, J.hok, rv, q⟩
    | .next, ⟨_, H', J, q⟩ => exact ⟨.non, H', J.os, J.bare, J.base, J.hok, rfl, q⟩
    | .brk, ⟨_, _, _, q⟩ => exact q.elim
    | .cont, ⟨_, _, _, q⟩ => exact q.elim
theorem FnGH.up {j : Nat} (F : FnGH P w K mg base CX j f fd ps sp) (h : j ≤ k) : FnGH P w K mg base CX k f fd ps sp :=
  ⟨F.same, fun A outer s H args us vs Q E p hg hr => F.go A outer s H args us vs Q E p hg (hr.mono h)⟩
end
section
variable {X : Cx} {CX : CXT} {k : Nat} {f : Addr} {fd : FuncData} {ps : List Str} {sp : Sp} {E : XK} {x : Str} {p pos : Pos} {e : Expr} {es : List Expr} {t : TA}
theorem pe_callGH (hG : X.A.guards = some []) (F : FnGH X.prog X.w X.K X.mg X.base CX k f fd ps sp) (hr : L2H.RoomH k X.A) (hc : L2H.HotC X) (hg : Gl X x) (hm : X.mg x = some (.ref f))
    (hk : PySem.W.keepIn X.K (.ref f) = true) (hb : Binds X.K fd ps []) (hx : Passes CX X E)
    (ha : PA X (e :: es) t) (nd : (x == ("__debug__" : Str)) = false := by decide) (h1 : starEach (e :: es) X.env = (false, eval e X.env) :: starEach es X.env := by rfl) (h2 : (backTo pos (starEach es X.env)).any (·.1) = false := by rfl) :
    PE X (.Call (.Name x p) (e :: es) [] pos) (tCall sp [] E t) := by
  constructor
  intro pins s σ H Q I h
  refine wpAny_Call_Name_kw (ld_glob I hg hm ?_ nd)
  have args := ha.run pos pins s σ H _ I h
  refine PySem.W.callWith_K (h₀ := X.base) I.ok.mod.kin hk (thn args ?_) h1 h2
  rintro us s1 ⟨vs, H1, I1, r1, q1⟩
  refine ⟨I1.kIn, ?_⟩
  rw [List.append_nil] at q1
  have bb := hb s1 us I1.kIn (by rw [List.append_nil, ← r1.length]; exact F.same _ _ _ _ q1)
  rw [List.append_nil] at bb
  obtain ⟨q, hot, hq⟩ := hc
  have P1 := I1.pin q (List.mem_append_left _ hq)
  have pin : L2H.PinOk X.stack H1 s1 q := ⟨P1.1, P1.2.1, fun m => (List.mem_cons.mp (I1.stkSub q.1 m)).elim P1.2.2.1 P1.2.2.2.1, P1.2.2.2.2⟩
  refine wpAny_call (codeAny_mono (F.go X.A X.stack s1 H1 ⟨us, []⟩ _ _ Q E q hG hr hot pin I1.env0 bb r1 q1) ?_)
  intro way sE z
  match way, z with
  | .error er, z => exact hx pins σ H1 s1 er sE I1 z
  | .ok (.ret u), z => exact I1.after z
end
end Er

set_option Elab.async false
set_option maxRecDepth 100000
set_option maxHeartbeats 2000000
set_option linter.all false
/-! errors of the program: what the readings ask -/
namespace Er
open PySem PySem.Spec PyProof.Rows L2 Sx
section
variable {P : Program} {w : World} {K : PySem.W.Frag} {mg : Str → Option Value} {base : Heap}
theorem okX {x qual : Str} {st : Stmt} {f : Addr} {fd : FuncData} {N ps : List Str} {k : Nat} {sp : Sp} (F : Fun K x qual st f fd) (S : FnScope N ps (defScope st)) (len : ∀ vs H Q E, sp vs H Q E → vs.length = ps.length)
    (hbody : ∀ (cdv : Value) (A : Around) (outer : List Env) (s : Shared) (H : Hp) (vs : List V) (Q : VK) (E : XK), Room k (A.deeper (envOfC qual (defScope st) s.heap.objs.size f cdv)) → sp vs H Q E →
      ∃ t, PSs (cxOf (L2N.CX P w) P w K mg base N qual (defScope st) f cdv A outer s H E) (defBody st) t ∧ t { nx := fun _ H' => Q .non H', rt := Q } (start N vs) H) :
    FnOk P w K mg base (L2N.CX P w) (k + 1) f fd ps sp := by
  obtain ⟨oc, od, kV, doc, pm, an, cdv, ct, osl, rfl, lk, hcd⟩ := F.ex
  exact fn_of lk hcd S len (fun A outer s H vs Q E hr hsp => hbody cdv A outer s H vs Q E hr hsp)
end
theorem roomM {k : Nat} {A : Around} {h : Option Value} (r : Room k A) : L2H.RoomH k (A.mark h) := ⟨r.dp, r.un⟩
theorem _root_.Sx.NB.xd {fs : List (Str × V)} : NB (.xd fs) := fun _ _ _ _ h => nomatch h
section
variable {K : PySem.W.Frag} {σ : L2.St} {H H1 H2 : Hp} {Q : VK} {E : XK} {C a p : Addr} {f : Str} {v y z : V} {D : Ends} {W Wout : WX} {te : TE} {cls : Value} {d : Option Addr}
/-- what an error's __init__ of one field does -/
def sp_init (C : Addr) (f : Str) : Sp := fun vs H Q _ => ∃ (a : Addr) (y : V), vs = [.ref a, y] ∧ H a = some (exo a C none) ∧
  ∀ dx, H dx = none → dx ≠ a → Q .non (upd (upd H dx (exd dx [(f, y)])) a (exo a C (some dx)))
theorem x_init {N : List V} (T : XC K C) (hno : PySem.W.findIn K (.ref C) f = some none) (ha : H a = some (exo a C none))
    (h0 : σ[0]? = some (some (.ref a))) (h1 : σ[1]? = some (some y)) (k : ∀ dx, H dx = none → dx ≠ a → D.nx σ (upd (upd H dx (exd dx [(f, y)])) a (exo a C (some dx)))) : tOst K f (tVar 0) (tVar 1) D σ H :=
  ⟨y, h1, .ref a, h0, a, C, rfl, T.oex, hno, .inl ⟨ha, k⟩⟩
def MkK (C : Addr) (sp : Sp) (vs : List V) (H1 : Hp) (Q : XK) : Prop := vs.length ≤ 1000 ∧ ∀ a, H1 a = none → sp (.ref a :: (vs ++ [])) (upd H1 a (exo a C none))
  (fun v H2 => v = .non ∧ ∃ (d : Addr) (fs : List (Str × V)), H2 a = some (exo a C (some d)) ∧ H2 d = some (exd d fs) ∧ H1 d = none ∧ Q (.ref C) (some d) (upd (del H2 a) d (.xd fs))) (fun _ _ _ => False)
theorem x_mkO {sp : Sp} {ta : TA} {Q : XK} (k : ta σ H fun vs H1 => MkK C sp vs H1 Q) : tMkO C sp [] ta σ H Q := k
theorem x_mk1 {Q : XK} (k : ∀ d H2, Ex H H2 → H d = none → H2 d = some (.xd [(f, y)]) → Q (.ref C) (some d) H2) : MkK C (sp_init C f) [y] H Q := by
  refine ⟨by show 1 ≤ 1000; decide, ?_⟩
  intro a ha
  refine ⟨a, y, rfl, upd_same, ?_⟩
  intro dx hx ne
  have hn : H dx = none := by rw [upd_ne ne] at hx; exact hx
  refine ⟨rfl, dx, [(f, y)], upd_same, by rw [upd_ne ne]; exact upd_same, hn, ?_⟩
  have same : upd (del (upd (upd (upd H a (exo a C none)) dx (exd dx [(f, y)])) a (exo a C (some dx))) a) dx (.xd [(f, y)]) = upd H dx (.xd [(f, y)]) := by
    funext b
    by_cases h1 : b = dx
    · rw [h1, upd_same, upd_same]
    · rw [upd_ne h1, upd_ne h1]
      by_cases h2 : b = a
      · rw [h2, del_same, ha]
      · rw [del_ne h2, upd_ne h2, upd_ne h1, upd_ne h2]
  rw [same]
  exact k dx _ (Ex.new hn) hn upd_same
/-- the wish of a handler that takes it -/
theorem x_was {c : Value} {i : Nat} {ts : Addr → Value → Option Addr → TS} (h : PySem.W.exmOne K cls c = some true)
    (k : ∀ a, H a = none → ts a cls d { nx := fun σ' H' => D.nx (σ'.set i none) H', rt := D.rt, bk := fun σ' H' => D.bk (σ'.set i none) H', ct := fun σ' H' => D.ct (σ'.set i none) H' } (σ.set i (some (.ref a))) H) :
    WE (wAs K c i ts Wout D) σ cls d H := ⟨true, h, fun _ => k, fun z => nomatch z⟩
/-- isinstance(e, D), e the error held -/
theorem x_isX {C' : Addr} {b : Bool} (T : XC K C) (hd : d = none ∨ ∃ dd fs, d = some dd ∧ H dd = some (.xd fs)) (hk : PySem.W.kitOne K (.ref C) (.ref C') = some b) (k : Q (.bl b) H) :
    rIsX K (.ref C) d a [.ref a, .ref C'] H Q := ⟨C, .ref C', .ref C', b, rfl, T, hd, rfl, fun u h => h, hk, k⟩
/-- e.f -/
theorem x_xg {dd : Addr} {i : Nat} (hx : σ[i]? = some (some (.ref a))) (T : XC K C) (hno : PySem.W.findIn K (.ref C) f = some none) (hd : H dd = some (.xd [(f, y)])) (k : Q y H) : tXg K a (.ref C) (some dd) f (tVar i) σ H Q :=
  ⟨.ref a, hx, rfl, C, dd, [(f, y)], y, rfl, T, hno, rfl, hd, by simp [List.lookup], k⟩
/-! while -/
def GoOn (Pv : L2.St → Hp → Prop) (μ : L2.St → Hp → Nat) (m : Nat) (tb : TS) (D : Ends) (σ : L2.St) (H : Hp) : Prop :=
  ∃ N : L2.St → Hp → Prop, (∀ σ' H', N σ' H' → ∃ m', m' < m ∧ (m' = μ σ' H' ∧ Pv σ' H')) ∧ tb { D with nx := N, ct := N, bk := D.nx } σ H
theorem x_goOn {Pv : L2.St → Hp → Prop} {μ : L2.St → Hp → Nat} {m : Nat} {tb : TS}
    (k : tb { D with nx := fun σ' H' => Pv σ' H' ∧ μ σ' H' < m, ct := fun σ' H' => Pv σ' H' ∧ μ σ' H' < m, bk := D.nx } σ H) : GoOn Pv μ m tb D σ H :=
  ⟨_, fun σ' H' ⟨q, l⟩ => ⟨_, l, rfl, q⟩, k⟩
theorem x_while {tc : TT} {tb : TS} (Pv : L2.St → Hp → Prop) (μ : L2.St → Hp → Nat) (h0 : Pv σ H)
    (hs : ∀ σ H, Pv σ H → tc σ H fun b H1 => if b = true then GoOn Pv μ (μ σ H) tb D σ H1 else D.nx σ H1) : tWhile tc tb D σ H := by
  refine ⟨fun m σ H => m = μ σ H ∧ Pv σ H, ⟨_, rfl, h0⟩, ?_⟩
  rintro m σ H ⟨rfl, q⟩
  exact hs σ H q
end
/-! three names at once, lists turned about, dicts asked -/
section
variable {K : PySem.W.Frag} {σ : L2.St} {H H1 H2 : Hp} {Q : VK} {a p : Addr} {u v w z : V} {D : Ends} {te : TE}
theorem x_par3 {i j l : Nat} {ta : TA} (k : ta σ H fun vs H1 => ∃ u v w, vs = [u, v, w] ∧ D.nx (((σ.set i (some u)).set j (some v)).set l (some w)) H1) : tPar3 i j l ta D σ H := k
theorem x_ex_3 {R : V → V → V → Prop} (k : R u v w) : ∃ a b c, [u, v, w] = [a, b, c] ∧ R a b c := ⟨u, v, w, rfl, k⟩
def RevL (K : PySem.W.Frag) (x : V) (H1 : Hp) (Q : VK) : Prop := ∃ a xs, x = .ref a ∧ SqL K H1 a xs ∧ ∀ p, H1 p = none → Q (.ref p) (upd H1 p (.lst xs.reverse))
theorem x_revL0 (k : te σ H fun x H1 => RevL K x H1 Q) : tRevL K te σ H Q := k
theorem x_revL {xs : List V} (h : H a = some (.lst xs)) (k : JustNew (.lst xs.reverse) H Q) : RevL K (.ref a) H Q := ⟨a, xs, rfl, SqL.of h, k⟩
def DGo (y z : V) (a : Addr) (H3 : Hp) (Q : VK) : Prop := ∃ o, DGet H3 a y o ∧ Q (o.getD z) H3
def DIs (x : V) (H1 : Hp) (R : Addr → Prop) : Prop := ∃ a, x = .ref a ∧ IsD H1 a ∧ R a
theorem x_dget2 {td ty tx : TE} (k : td σ H fun x H1 => DIs x H1 fun a => ty σ H1 fun y H2 => tx σ H2 fun z H3 => DGo y z a H3 Q) : tDGet2 td ty tx σ H Q := k
theorem x_dis {kvs : List (Key × V)} {R : Addr → Prop} (h : H a = some (.dK kvs)) (k : R a) : DIs (.ref a) H R := ⟨a, rfl, .inl ⟨kvs, .inl h⟩, k⟩
theorem x_dgo {kvs : List (Key × V)} {s : Str} (h : H a = some (.dK kvs)) (e : (valV kvs (Sum.inr s)).getD z = w) (k : Q w H) : DGo (.str s) z a H Q := ⟨_, .inl ⟨kvs, .inr s, .inl h, rfl, rfl⟩, by rw [e]; exact k⟩
end
/-! a loop over a list that is known, turn by turn; append -/
section
variable {K : PySem.W.Frag} {σ : L2.St} {H H1 H2 : Hp} {Q : VK} {a l p : Addr} {u v w z : V} {D : Ends}
def Unr (a : Addr) (xs : List V) (j : Nat) (tb : TS) (D : Ends) : List V → L2.St → Hp → Prop
  | [], σ, H => D.nx σ H
  | v :: vs, σ, H => tb { D with nx := fun σ' H' => H' a = some (.lst xs) ∧ Unr a xs j tb D vs σ' H', ct := fun σ' H' => H' a = some (.lst xs) ∧ Unr a xs j tb D vs σ' H', bk := D.nx } (σ.set j (some v)) H
theorem for_unroll {xs : List V} {j : Nat} {tb : TS} (hx : H1 a = some (.lst xs)) (k : Unr a xs j tb D xs σ H1) : LK K (.ref a) H1 fun J H2 => ForGo J (gName j) tb D σ H2 := by
  refine for_lst hx (fun i σ H => H a = some (.lst xs) ∧ Unr a xs j tb D (xs.drop i) σ H) ⟨hx, k⟩ (fun i σ H _ h => h.1) ?_ ?_
  · intro i x σ H hi h
    obtain ⟨h1, h2⟩ := h
    have lt := (List.getElem?_eq_some_iff.mp hi).1
    have e : xs.drop i = x :: xs.drop (i + 1) := by
      rw [List.drop_eq_getElem_cons lt]
      congr 1
      exact (List.getElem?_eq_some_iff.mp hi).2
    rw [e] at h2
    exact h2
  · intro σ H h
    have := h.2
    rw [List.drop_length] at this
    exact this
theorem x_unr0 {xs : List V} {j : Nat} {tb : TS} (k : D.nx σ H) : Unr a xs j tb D [] σ H := k
theorem x_unr1 {xs vs : List V} {j : Nat} {tb : TS} (k : tb { D with nx := fun σ' H' => H' a = some (.lst xs) ∧ Unr a xs j tb D vs σ' H', ct := fun σ' H' => H' a = some (.lst xs) ∧ Unr a xs j tb D vs σ' H', bk := D.nx } (σ.set j (some v)) H) : Unr a xs j tb D (v :: vs) σ H := k
theorem x_append {xs : List V} (h : H l = some (.lst xs)) (n : xs.length < sizeLine) (k : Q .non (upd H l (.lst (xs ++ [v])))) : L2.rAppend (.ref l) [v] H Q := ⟨l, xs, v, rfl, rfl, h, n, k⟩
end
/-! == of any two of the kinds below, repr of these -/
section
variable {X : Cx}
def rEqAny (K : PySem.W.Frag) : R2 := fun x y H Q => rEq x y H Q ∨ rEqD K x y H Q ∨
  ∃ a b kvs, x = .ref a ∧ y = .ref b ∧ H a = some (.dK kvs) ∧ H b = some (.dK kvs) ∧ (kvs.map (·.1)).Nodup ∧ (∀ p ∈ kvs, flatB p.2 = true) ∧ Q (.bl true) H
theorem op_eqAny (hu : X.A.units + 64 < cLine) : OpR X (compareOp .Eq) (rEqAny X.K) := by
  intro pins s σ H x y v u Q I rx ry h
  rcases h with h | h | h
  · exact op_eq pins s σ H x y v u Q I rx ry h
  · exact op_eqD hu pins s σ H x y v u Q I rx ry h
  · exact op_eq_dict (by omega) pins s σ H x y v u Q I rx ry h
end
end Er

set_option Elab.async false
set_option maxRecDepth 100000
set_option maxHeartbeats 2000000
set_option linter.all false
/-! two that are alike: == says so, and repr shows the same -/
namespace Er
open PySem PySem.Spec PyProof.Rows L2 Sx
/-! repr, of a dict of one text and one int too -/
def rReprY (K : PySem.W.Frag) : List V → Hp → VK → Prop := fun xs H Q => Rv.rReprX K xs H Q ∨ ∃ (a : Addr) (z : Str) (i : Int), xs = [.ref a] ∧ H a = some (.dK [(Sum.inr z, .int i)]) ∧ i.natAbs.log2 < 1920 ∧
  (PyData.dict [(.str z, .int i)]).shown.length ≤ 1000 ∧ Q (.str (PyData.dict [(.str z, .int i)]).shown) H
theorem call_reprY {X : Cx} (hG : X.A.guards = some []) (hu : X.A.units + 64 < cLine) : CallR X (.builtin "repr") (rReprY X.K) := by
  intro pins s σ H xs us Q I r h
  rcases h with h | ⟨a, z, i, rfl, ha, hi, hl, q⟩
  · exact Rv.call_reprX hG hu pins s σ H xs us Q I r h
  · obtain ⟨u, rfl, ru⟩ := vals1 r
    cases ru
    have ok : ObjOk X.prog X.w H s.heap a (.dK [(Sum.inr z, .int i)]) := I.hok a _ ha
    obtain ⟨_, away, vs, kv, o, es, ep, at0, ex, dat, _, prs, _⟩ := ok
    have one : ∃ (e : DictEntry) (t t' : Tok), es.toList = [e] ∧ e.key = .str z t ∧ e.val = .int i t' := by
      generalize es.toList = l at prs
      cases kv with
      | @cons p q ps qs h1 h2 =>
        cases h2
        obtain ⟨h3, h4⟩ := h1
        obtain ⟨q1, q2⟩ := q
        dsimp only at h3 h4
        subst h3
        obtain ⟨t', rfl⟩ := h4
        cases prs with
        | @cons e kv2 es2 kvs2 hk hv hr =>
          cases hr
          have hk' : keyIs (Sum.inr z) e.key = true := hk
          rcases keyIs_shape hk' with ⟨j, t, e1, e2⟩ | ⟨x, t, e1, e2⟩
          · cases e1
          · injection e1 with e3
            subst e3
            exact ⟨e, t, t', rfl, e2, hv⟩
    obtain ⟨e, t, t', e1, e2, e3⟩ := one
    have rd : Reads s.heap (.ref a) (.dict [(.str z, .int i)]) (a :: ([] ++ []) ++ ([] ++ [])) := by
      refine .dict (kvs := [(.str z, .int i)]) at0 ex.1 dat ?_ ?_
      · rw [e1]
        show ReadsAll _ [e.key] [.str z] _
        rw [e2]
        exact .cons (.str z t) .nil
      · rw [e1]
        show ReadsAll _ [e.val] [.int i] _
        rw [e3]
        exact .cons (.int i t') .nil
    refine PySem.repr_of_reads' rd ?_ (fun _ m => ?_) hG ?_ (fun b o e => e) (fun h' u tk keep => ⟨.str _, H, I.kept keep, ⟨_, rfl⟩, q⟩) ?_
    · simp [PyData.showable, PyData.showableKv, hi]
    · rcases List.mem_singleton.mp (by simpa using m) with e
      rw [← e] at away
      simp at away
    · show X.A.units + (PyData.depth (.dict [(.str z, .int i)]) + 1) < cLine
      have : PyData.depth (.dict [(.str z, .int i)]) ≤ 2 := by simp [PyData.depth, PyData.depthKv]
      omega
    · exact Nat.le_trans hl (by decide)
structure Alike (K : PySem.W.Frag) (H : Hp) (v w : V) : Prop where
  eq : ∀ H1 Q, Ex H H1 → Q (.bl true) H1 → rEqAny K v w H1 Q
  rp : ∃ z, (∀ H1 Q, Ex H H1 → Q (.str z) H1 → rReprY K [v] H1 Q) ∧ ∀ H1 Q, Ex H H1 → Q (.str z) H1 → rReprY K [w] H1 Q
section
variable {K : PySem.W.Frag} {H H1 : Hp} {v w : V}
theorem Alike.mono (h : Alike K H v w) (e : Ex H H1) : Alike K H1 v w := by
  obtain ⟨a, z, b, c⟩ := h
  exact ⟨fun H2 Q f => a H2 Q (e.trans f), z, fun H2 Q f => b H2 Q (e.trans f), fun H2 Q f => c H2 Q (e.trans f)⟩
theorem shows {d : PyData} {b e : Nat} (h : DN H d v) (s : Sml b e d) (hb : b ≤ 100000) (he : e ≤ 40) : ∀ H1 Q, Ex H H1 → Q (.str d.shown) H1 → rReprY K [v] H1 Q :=
  fun H1 Q f q => .inl (.inl ⟨v, d, rfl, DN.dp _ _ (DN.mono f _ _ h), s.shw hb he, q⟩)
theorem Alike.of {d : PyData} {b e : Nat} (h1 : DN H d v) (h2 : DN H d w) (s : Sml b e d) (hb : b ≤ 100000) (he : e ≤ 40) : Alike K H v w := by
  refine ⟨?_, d.shown, shows h1 s hb he, shows h2 s hb he⟩
  intro H1 Q f q
  have g1 := DN.mono f _ _ h1
  have g2 := DN.mono f _ _ h2
  have er := SeqAt.eqv_refl d s.lay
  have sh : SeqAt.shaped d = true := by unfold SeqAt.shaped; rw [s.lay]; have := s.deep; simp; omega
  have deep : rEqAny K v w H1 Q := .inr (.inl ⟨d, d, DN.dp _ _ g1, DN.dp _ _ g2, sh, sh, by rw [er]; exact q⟩)
  exact deep
theorem Alike.dict0 {a : Addr} (h : H a = some (.dK [])) : Alike K H (.ref a) (.ref a) := by
  refine ⟨?_, (PyData.dict []).shown, ?_, ?_⟩
  · intro H1 Q f q
    have g := f.kp _ _ h NB.dK
    exact .inr (.inr ⟨a, a, [], rfl, rfl, g, g, .nil, (fun _ z => nomatch z), q⟩)
  all_goals
    intro H1 Q f q
    exact .inl (.inr ⟨a, rfl, f.kp _ _ h NB.dK, q⟩)
theorem Alike.dict1 {a : Addr} {z : Str} {i : Int} (h : H a = some (.dK [(Sum.inr z, .int i)])) (hi : i.natAbs.log2 < 1920) (hl : (PyData.dict [(.str z, .int i)]).shown.length ≤ 1000) : Alike K H (.ref a) (.ref a) := by
  refine ⟨?_, (PyData.dict [(.str z, .int i)]).shown, ?_, ?_⟩
  · intro H1 Q f q
    have g := f.kp _ _ h NB.dK
    refine .inr (.inr ⟨a, a, [(Sum.inr z, .int i)], rfl, rfl, g, g, by simp, ?_, q⟩)
    intro p m
    rw [List.mem_singleton.mp m]
    rfl
  all_goals
    intro H1 Q f q
    exact .inr ⟨a, z, i, rfl, f.kp _ _ h NB.dK, hi, hl, q⟩
end
section
variable {K : PySem.W.Frag} {H H1 : Hp} {v w : V} {a : Addr}
theorem dnInt {i : Int} : DN H (.int i) (.int i) := by rw [DN]
theorem dnBl {b : Bool} : DN H (.bool b) (.bl b) := by rw [DN]
theorem dnNon : DN H .none .non := by rw [DN]
theorem dnStr {z : Str} : DN H (.str z) (.str z) := by rw [DN]
theorem dnTup {xs : List V} {ds : List PyData} (h : H a = some (.tup xs)) (d : DNs H ds xs) : DN H (.tuple ds) (.ref a) := by rw [DN]; exact ⟨a, xs, rfl, h, d⟩
theorem dnLst {xs : List V} {ds : List PyData} (h : H a = some (.lst xs)) (nb : NB (.lst xs)) (d : DNs H ds xs) : DN H (.list ds) (.ref a) := by rw [DN]; exact ⟨a, xs, rfl, h, nb, d⟩
theorem dnNil : DNs H [] [] := by rw [DNs]
theorem dnCons {d : PyData} {ds : List PyData} {x : V} {xs : List V} (h : DN H d x) (r : DNs H ds xs) : DNs H (d :: ds) (x :: xs) := by rw [DNs]; exact ⟨x, xs, rfl, h, r⟩
/-- a thing that is alike itself -/
structure Both (K : PySem.W.Frag) (H : Hp) (v : V) : Prop where
  t : Thing K H v
  al : Alike K H v v
theorem Both.mono (h : Both K H v) (e : Ex H H1) : Both K H1 v := ⟨h.t.mono e, h.al.mono e⟩
theorem Both.of {d : PyData} {b e : Nat} (t : Thing K H v) (h : DN H d v) (s : Sml b e d) (hb : b ≤ 100000 := by decide) (he : e ≤ 40 := by decide) : Both K H v := ⟨t, .of h h s hb he⟩
theorem Both.int {i : Int} (h : i.natAbs < 10 ^ 59) : Both K H (.int i) := .of (.int i) dnInt (Sml.int h)
theorem Both.bl {b : Bool} : Both K H (.bl b) := .of (.bl b) dnBl Sml.bool
theorem Both.non : Both K H .non := .of .non dnNon Sml.none
theorem Both.str {z : Str} {n : Nat} (ok : PyData.strOk z = true) (h : (z.cps.toList.all fun c => decide (c < 16 ^ 8)) = true) (hn : z.cps.size ≤ n) (hb : n ≤ 100000) : Both K H (.str z) := .of (.str z) dnStr (Sml.str ok h hn) hb
theorem Both.dict0 (h : H a = some (.dK [])) : Both K H (.ref a) := ⟨.dK h, .dict0 h⟩
theorem Both.lst0 (h : H a = some (.lst [])) : Both K H (.ref a) := .of (.lst h (NB.len (by decide))) (dnLst h (NB.len (by decide)) dnNil) (Sml.lst (b := 0) (e := 0) (n := 0) (fun _ m => nomatch m) (Nat.le_refl _))
theorem Both.tup0 (h : H a = some (.tup [])) : Both K H (.ref a) := .of (.tup h) (dnTup h dnNil) (Sml.tup (b := 0) (e := 0) (n := 0) (fun _ m => nomatch m) (Nat.le_refl _))
theorem Both.dict1 {z : Str} {i : Int} (h : H a = some (.dK [(Sum.inr z, .int i)])) (hi : i.natAbs.log2 < 1920) (hl : (PyData.dict [(.str z, .int i)]).shown.length ≤ 1000) : Both K H (.ref a) := ⟨.dK h, .dict1 h hi hl⟩
theorem AllB.nil : ∀ v ∈ ([] : List V), Both K H v := fun _ h => nomatch h
theorem AllB.cons {v : V} {xs : List V} (t : Both K H v) (r : ∀ v ∈ xs, Both K H v) : ∀ u ∈ v :: xs, Both K H u := by
  intro u h
  rcases List.mem_cons.mp h with e | h
  · rw [e]; exact t
  · exact r u h
end
/-- text * int, the text told -/
def rMulS2 : R2 := fun x y H Q => ∃ (z : Str) (i : Int), x = .str z ∧ y = .int i ∧ z.length ≤ 16 ∧ 0 ≤ i ∧ i ≤ 1048576 ∧ Q (.str (Txt.mul z i)) H
theorem op_mulS2 {X : Cx} : OpR X (binaryOp .Mult) rMulS2 := by
  intro pins s σ H x y v u Q I rx ry h
  obtain ⟨z, i, rfl, rfl, hz, h0, h1, q⟩ := h
  obtain ⟨t, rfl⟩ := rx
  obtain ⟨t', rfl⟩ := ry
  exact PySem.W.KXi.mul rfl hz (by omega) h1 fun t2 k _ _ => ⟨.str _, H, I.tok _, ⟨_, rfl⟩, q⟩
theorem x_mulS2 {z : Str} {i : Int} {H : Hp} {Q : VK} (h : z.length ≤ 16) (h0 : 0 ≤ i) (h1 : i ≤ 1048576) (k : Q (.str (Txt.mul z i)) H) : rMulS2 (.str z) (.int i) H Q := ⟨z, i, rfl, rfl, h, h0, h1, k⟩
theorem unH {k : Nat} {A : Around} (r : L2H.RoomH k A) : A.units + 64 < cLine := by have := r.un; omega
theorem x_callSS {sp : Sp} {σ : L2.St} {H : Hp} {Q : VK} {E : L2.St → XK} {t : TA} (k : t σ H fun vs H1 => sp vs H1 Q (E σ)) : tCallS sp E t σ H Q := k
end Er

set_option Elab.async false
set_option maxRecDepth 100000
set_option maxHeartbeats 2000000
set_option linter.all false
/-! flat items: ints, truths, None, short texts -/
namespace Er
open PySem PySem.Spec PyProof.Rows L2 Sx
def strB (z : Str) : Bool := PyData.strOk z && ((z.cps.toList.all fun c => decide (c < 16 ^ 8)) && decide (z.cps.size ≤ 10))
def okF : V → Prop
  | .int i => i.natAbs < 10 ^ 59
  | .bl _ => True
  | .non => True
  | .str z => strB z = true
  | _ => False
def toD : V → PyData
  | .int i => .int i
  | .bl b => .bool b
  | .str z => .str z
  | _ => .none
theorem All.nil {α : Type} {p : α → Prop} : ∀ x ∈ ([] : List α), p x := fun _ h => nomatch h
theorem All.cons {α : Type} {p : α → Prop} {x : α} {xs : List α} (h : p x) (r : ∀ y ∈ xs, p y) : ∀ y ∈ x :: xs, p y := by
  intro y m
  rcases List.mem_cons.mp m with e | m
  · rw [e]; exact h
  · exact r y m
section
variable {K : PySem.W.Frag} {H H1 : Hp} {v : V} {p : Addr} {xs : List V}
theorem okF.dn (h : okF v) : DN H (toD v) v := by
  cases v with
  | int i => exact dnInt
  | bl b => exact dnBl
  | non => exact dnNon
  | str z => exact dnStr
  | _ => exact h.elim
theorem okF.sml (h : okF v) : Sml 10 0 (toD v) := by
  cases v with
  | int i => exact (Sml.int h).up (by decide) (by decide)
  | bl b => exact Sml.bool.up (by decide) (by decide)
  | non => exact Sml.none.up (by decide) (by decide)
  | str z =>
    have h : strB z = true := h
    unfold strB at h
    rw [Bool.and_eq_true, Bool.and_eq_true] at h
    exact Sml.str h.1 h.2.1 (of_decide_eq_true h.2.2)
  | _ => exact h.elim
theorem okF.th (h : okF v) : Thing K H v := by
  cases v with
  | int i => exact .int i
  | bl b => exact .bl b
  | non => exact .non
  | str z => exact .str z
  | _ => exact h.elim
theorem okF.both (h : okF v) : Both K H v := .of h.th h.dn h.sml
theorem okF.noref (h : okF v) (p : Addr) : v ≠ .ref p := by
  rintro rfl
  exact h
theorem dns_map : ∀ {xs : List V}, (∀ x ∈ xs, okF x) → DNs H (xs.map toD) xs
  | [], _ => dnNil
  | x :: xs, h => dnCons (h x (by simp)).dn (dns_map fun y m => h y (by simp [m]))
theorem sml_map (h : ∀ x ∈ xs, okF x) : ∀ d ∈ xs.map toD, Sml 10 0 d := by
  intro d m
  obtain ⟨x, hx, rfl⟩ := List.mem_map.mp m
  exact (h x hx).sml
theorem Both.tupF (hp : H p = some (.tup xs)) (h : ∀ x ∈ xs, okF x) (hl : xs.length ≤ 1000) : Both K H (.ref p) :=
  .of (.tup hp) (dnTup hp (dns_map h)) (Sml.tup (b := 10) (e := 0) (n := 1000) (sml_map h) (by rw [List.length_map]; exact hl))
theorem Both.lstF (hp : H p = some (.lst xs)) (nb : NB (.lst xs)) (h : ∀ x ∈ xs, okF x) (hl : xs.length ≤ 1000) : Both K H (.ref p) :=
  .of (.lst hp nb) (dnLst hp nb (dns_map h)) (Sml.lst (b := 10) (e := 0) (n := 1000) (sml_map h) (by rw [List.length_map]; exact hl))
theorem Deep.tupF (hp : H p = some (.tup xs)) (h : ∀ x ∈ xs, okF x) (e : Ex H H1) : Deep K H1 (.ref p) := Deep.tup (e.kp _ _ hp NB.tup) fun x m => (h x m).th
end
theorem Both.strMul {K : PySem.W.Frag} {H : Hp} {z : Str} {c : Nat} {n : Int} (hz : z = ⟨#[c]⟩) (hc : c < 0x110000) (hn : n.toNat ≤ 100000) : Both K H (.str (Txt.mul z n)) := by
  subst hz
  have e := PyProof.Rows.mul_one_list c n
  refine Both.str (n := n.toNat) ?_ ?_ ?_ hn
  · unfold PyData.strOk
    rw [← Array.all_toList, e]
    simp [hc]
  · rw [e]
    simp
    omega
  · rw [← Array.length_toList, e]
    simp
end Er

set_option Elab.async false
set_option linter.all false
set_option maxRecDepth 100000
set_option maxHeartbeats 2000000
namespace Ow
open PySem PySem.Spec PyProof.Rows L2 ItX

/-! ### t[a:b].index(i), the slice two ints -/
def twO (f g : Int) (t u : Tok) (n : Nat) : Obj := { cls := .type "tuple", data := .seq #[.int f t, .int g u] n }
def TwE (p : Addr) (f g : Int) : HO := .ext fun h => ∃ (t u : Tok) (n : Nat), h.get? p = some (twO f g t u n)
theorem twE_ok {P : Program} {w : World} {H : Hp} {h : Heap} {p : Addr} {f g : Int} {t u : Tok} {n : Nat} (e : h.get? p = some (twO f g t u n)) : ObjOk P w H h p (TwE p f g) :=
  ⟨⟨t, u, n, e⟩, ⟨_, e⟩, fun _ _ ⟨t, u, n, q⟩ k => ⟨t, u, n, k _ q⟩⟩
def rSlTE (K : PySem.W.Frag) : V → Option Int → Option Int → Hp → VK → Prop := fun x lo hi H Q => ∃ (a : Addr) (xs : List V) (f g : Int), x = .ref a ∧ SqT K H a xs ∧
  ¬ (HT.sIx xs.length 0 lo = 0 ∧ HT.sIx xs.length xs.length hi = xs.length) ∧ cutV xs lo hi = [.int f, .int g] ∧ ∀ p, H p = none → Q (.ref p) (upd H p (TwE p f g))
theorem sl_tupE {X : Cx} : SlR X (rSlTE X.K) := by
  rintro pins s σ H x v vl vu lo hi sl Q I rx hs pl pu ⟨a, xs, f, g, rfl, hx, hw, hc, q⟩
  cases rx
  obtain ⟨its, r, ht, hz⟩ := I.tuple hx
  have hlen : its.toArray.size = xs.length := by rw [List.size_toArray]; exact r.length.symm
  refine ⟨"tuple", "tuple.__getitem__", PyProof.Rows.slot_tuple_getitem.lookup, ht.typeIs, HT.getItem_tuple_cut ht hs pl pu (by rw [hlen]; exact hw) ?_ (by rw [hlen]; exact hz)⟩
  rw [hlen]
  have rv : Vals (cutV xs lo hi) (((its.drop (HT.sIx xs.length 0 lo))).take (HT.sIx xs.length xs.length hi - HT.sIx xs.length 0 lo)) := Vals.take _ (Vals.drop _ r)
  rw [hc] at rv
  generalize hy : ((its.drop (HT.sIx xs.length 0 lo))).take (HT.sIx xs.length xs.length hi - HT.sIx xs.length 0 lo) = ys at rv
  cases rv with
  | cons r1 rv2 =>
    cases rv2 with
    | cons r2 rv3 =>
      cases rv3
      obtain ⟨t, rfl⟩ := r1
      obtain ⟨u, rfl⟩ := r2
      refine ⟨.ref s.heap.objs.size, _, I.laid (t' := s.toks) (fun b ob e => Heap.get?_push_of_some _ e) (Nat.le_refl _) (twE_ok (t := t) (u := u) (n := 0) ?_), rfl, q _ (I.hok.fresh (Nat.le_refl _))⟩
      exact Heap.get?_push_size _ rfl
def tyE : V → Hp → Prop := fun x H => ∃ (p : Addr) (f g : Int), x = .ref p ∧ H p = some (TwE p f g)
theorem tyE_ok {X : Cx} : TyOk X "tuple" tyE := by
  rintro pins σ H s x v I rx ⟨p, f, g, rfl, h⟩
  cases rx
  obtain ⟨t, u, n, e⟩ := (I.hok p _ h).1
  exact ⟨⟨_, e, rfl⟩, fun a ea => by cases ea; exact ⟨_, e, rfl⟩⟩
def rIndexE : V → List V → Hp → VK → Prop := fun x xs H Q => ∃ (p : Addr) (f g i : Int), x = .ref p ∧ xs = [.int i] ∧ H p = some (TwE p f g) ∧ (i = f → Q (.int 0) H) ∧ (i ≠ f → i = g ∧ Q (.int 1) H)
theorem mt_indexE {X : Cx} : MtR X "tuple.index" rIndexE := by
  rintro pins s σ H x xs v us Q I rx rs ⟨p, f, g, i, rfl, rfl, h, q0, q1⟩
  cases rx
  obtain ⟨z, rfl, ru⟩ := vals1 rs
  obtain ⟨tz, rfl⟩ := ru
  obtain ⟨t, u, n, e⟩ := (I.hok p _ h).1
  have eqa : ∀ y ∈ (#[Value.int f t, Value.int g u] : Array Value), SeqAt.EqAt X.A.in1 s y (.int i tz) (match y with | .int a _ => a == i | _ => false) := by
    intro y hy
    simp at hy
    rcases hy with rfl | rfl
    · exact SeqAt.EqAt.int_int _ _ _ _
    · exact SeqAt.EqAt.int_int _ _ _ _
  by_cases hi : i = f
  · exact call_meets F.slot_tuple_index ⟨_, e, rfl⟩ F.entry_tuple_index (F.args_tuple_index_2 (Value.ref p) (Value.int i tz))
      (TI.tuple_indexAt p _ n none #[] (Value.int i tz) (fun y => match y with | .int a _ => a == i | _ => false) 0 (by simp) (by simp [hi]) (fun m hm hmj => absurd hmj (Nat.not_lt_zero _)))
      ⟨e, eqa, .int 0, H, I.tok _, ⟨_, rfl⟩, q0 hi⟩
  · obtain ⟨hg, q⟩ := q1 hi
    exact call_meets F.slot_tuple_index ⟨_, e, rfl⟩ F.entry_tuple_index (F.args_tuple_index_2 (Value.ref p) (Value.int i tz))
      (TI.tuple_indexAt p _ n none #[] (Value.int i tz) (fun y => match y with | .int a _ => a == i | _ => false) 1 (by simp) (by simp [hg]) (fun m hm hmj => by
        have : m = 0 := by omega
        subst this
        simp; exact fun e => hi e.symm))
      ⟨e, eqa, .int 1, H, I.tok _, ⟨_, rfl⟩, q⟩
end Ow

set_option Elab.async false
set_option linter.all false
set_option maxRecDepth 100000
set_option maxHeartbeats 2000000
namespace Ow
open PySem PySem.Spec PyProof.Rows L2 ItX
/-! ### == by an own __eq__, with both answers -/
/-- what stands on the other side: of the class itself, or of a class that is no child of it -/
def Oth (X : Cx) (C : Addr) (y : V) (H : Hp) : Prop := ∀ (pins : List (Addr × Obj)) (σ : L2.St) (s : Shared) (v : Value), L2.Inv X pins σ H s → RelV y v → ∃ tb, W.Looks (model X.prog X.w) s.heap (typeOf v) tb ∧ W.notFirst X.K C tb = true
def rEqC (X : Cx) (C : Addr) (sp : Sp) (E : XK) : R2 := fun x y H Q => ∃ (a dx : Addr) (fs : List (Str × V)), x = .ref a ∧ H a = some (.ins C dx fs) ∧ Oth X C y H ∧ sp [x, y] H (fun v H' => (∃ b, v = .bl b) ∧ Q v H') E
theorem op_eqOwn {X : Cx} {n : Nat} {CX : CXT} {C f : Addr} {fd : FuncData} {ps : List Str} {sp : Sp} {E : XK} (F : FnOk X.prog X.w X.K X.mg X.base CX n f fd ps sp)
    (hs : W.findIn X.K (Value.ref C) (Str.ofString "__eq__") = some (some (Value.ref f))) (hf : W.isFn X.K (Value.ref f) = true) (hb : Binds X.K fd ps []) (hx : Passes CX X E) (hr : Room n X.A) : OpR X (compareOp .Eq) (rEqC X C sp E) := by
  rintro pins s σ H x y v u Q I rx ry ⟨a, dx, fs, rfl, ha, ho, hsp⟩
  cases rx
  obtain ⟨tb, lk, nf⟩ := ho pins σ s u I ry
  obtain ⟨mA, J, _⟩ := ins_get I.hok ha
  obtain ⟨od, J, _⟩ := ObjM.look J
  obtain ⟨m, hF⟩ := Inv.fr I
  show wpAny _ _ (richCompare .Eq _ _) _ _ _
  refine W.cmp_K hr.units0 hF I.ok.mod.kin J lk nf hs hf ?_
  have hl := F.len _ _ _ _ hsp
  have r2 : Vals [V.ref a, y] [Value.ref a, u] := Paired.cons rfl (Paired.cons ry Paired.nil)
  have bi := hb s [Value.ref a, u] I.kIn (by simpa using hl)
  rw [List.append_nil] at bi
  refine wpAny_call (codeAny_mono (F.run X.A X.stack s H { pos := [Value.ref a, u] } [Value.ref a, u] [V.ref a, y] _ E hr I.env0 bi r2 hsp) fun r s' hq => ?_)
  cases r with
  | error e => exact hx pins σ H s e s' I hq
  | ok fl =>
    cases fl with
    | ret w =>
      obtain ⟨z, H', I', rz, ⟨b, ez⟩, q⟩ := Inv.after I hq
      subst ez
      cases rz
      exact ⟨.bl b, H', I', rfl, q⟩
    | _ => exact hq.elim
end Ow

set_option Elab.async false
set_option linter.all false
set_option maxRecDepth 100000
set_option maxHeartbeats 2000000
namespace Ow
open PySem PySem.Spec PyProof.Rows L2 ItX
theorem ifBound_objNe {M : Model} {A : Around} {E : Value → Shared → Prop} {s : Shared} {K : W.Frag} {x C : Addr} {ox : Obj} {od : Option Obj} {args : List Value} {Q : Option Value → Shared → Prop} (X : K.In s.heap) (I : W.InstAt s.heap x ox C od)
    (hs : W.findIn K (Value.ref C) (Str.ofString "__ne__") = some (some (Value.builtin "object.__ne__"))) (h : wpAny M A (call (Value.builtin "object.__ne__") (Value.ref x :: args)) (fun v => Q (some v)) E s) :
    wpAny M A (callSpecialIfBound? (Value.ref x) (Str.ofString "__ne__") args) Q E s := by
  have fin := wpAny_bind (f := fun v => (pure (some v) : Sem (Option Value))) (wpAny_mono h (fun v s' h' => wpAny_pure h') fun x x_1 h' => h')
  unfold callSpecialIfBound?
  refine wpAny_holding ?_
  refine wpAny_bind (wpAny_bind (wpAny_bind (W.Looks.here (W.InstAt.type I) (W.Looks.here (W.looks_findIn X hs) (wpAny_bind (wpAny_askSetting (wpAny_ite ?_)))))))
  split
  · refine wpAny_bind (wpAny_of_eq (F.slot_object_ne.bind (Value.ref x)) (wpAny_pure fin))
  · refine wpAny_tryCatch (wpAny_bind (wpAny_of_eq (F.slot_object_ne.bind (Value.ref x)) (wpAny_pure fin)))

theorem rc_objNe {prog : Program} {w : World} {A : Around} {E : Value → Shared → Prop} {s : Shared} {K : W.Frag} {x C : Addr} {ox : Obj} {od : Option Obj} {b tb : Value} {Q : Value → Shared → Prop} (hu : A.units < cLine) (X : K.In s.heap) (I : W.InstAt s.heap x ox C od)
    (hb : W.Looks (model prog w) s.heap (typeOf b) tb) (hn : W.notFirst K C tb = true) (hs : W.findIn K (Value.ref C) (Str.ofString "__ne__") = some (some (Value.builtin "object.__ne__")))
    (h : wpAny (model prog w) A (call (Value.builtin "object.__ne__") [Value.ref x, b]) (fun v s' => (∃ c, v = .bool c) ∧ Q v s') E s) :
    wpAny (model prog w) A (richCompare .NotEq (Value.ref x) b) Q E s := by
  have one : wpAny (model prog w) A (tryCompare (Value.ref x) (Str.ofString "__ne__") b) (fun r s' => ∃ v, r = some v ∧ Q v s') E s := by
    unfold tryCompare
    refine wpAny_bind (ifBound_objNe X I hs (wpAny_mono h (fun v s' hv => ?_) fun _ _ e => e))
    obtain ⟨⟨c, rfl⟩, q⟩ := hv
    exact wpAny_pure ⟨_, rfl, q⟩
  have ot : oneThing? .NotEq (Value.ref x) b = none := by cases b <;> rfl
  unfold richCompare
  refine wpAny_holding (wpAny_bind (wpAny_cRoomFor hu ?_))
  rw [ot]
  refine wpAny_bind (W.Looks.here I.type (wpAny_bind (W.Looks.here hb ?_)))
  have fin : wpAny (model prog w) A (tryCompare (Value.ref x) (Str.ofString "__ne__") b >>= fun r => match r with
      | some v => pure v
      | x_1 => (do
        if (!false) = true then do
          let r ← tryCompare b (Str.ofString "__ne__") (Value.ref x)
          match r with
          | some v => pure v
          | x_2 => do
            rule "compare.ne-identity"
            let r ← isSame (Value.ref x) b
            pure (Value.bool !r)
        else do
          rule "compare.ne-identity"
          let r ← isSame (Value.ref x) b
          pure (Value.bool !r))) Q E s := by
    refine wpAny_bind (wpAny_mono one (fun r s' hv => ?_) fun _ _ e => e)
    obtain ⟨v, rfl, q⟩ := hv
    exact wpAny_pure q
  by_cases he : (Value.ref C != tb) = true
  · rw [if_pos he]
    have hsub : W.subIn K tb (Value.ref C) = some false := by
      unfold W.notFirst at hn
      rw [Bool.or_eq_true] at hn
      rcases hn with e | e
      · have : Value.ref C = tb := (eq_of_beq e).symm
        subst this
        simp at he
      · exact eq_of_beq e
    refine wpAny_bind (W.Looks.here (W.looks_subIn X hsub) ?_)
    exact fin
  · rw [if_neg he]
    refine wpAny_bind (wpAny_pure ?_)
    exact fin

def rNeC (X : Cx) (C : Addr) (sp : Sp) (E : XK) : R2 := fun x y H Q => ∃ (a dx : Addr) (fs : List (Str × V)), x = .ref a ∧ H a = some (.ins C dx fs) ∧ Oth X C y H ∧ sp [x, y] H (fun v H' => ∃ b, v = .bl b ∧ Q (.bl (!b)) H') E
theorem op_neOwn {X : Cx} {n : Nat} {CX : CXT} {C f : Addr} {fd : FuncData} {ps : List Str} {sp : Sp} {E : XK} (F : FnOk X.prog X.w X.K X.mg X.base CX n f fd ps sp)
    (hs : W.findIn X.K (Value.ref C) (Str.ofString "__eq__") = some (some (Value.ref f))) (hf : W.isFn X.K (Value.ref f) = true) (hb : Binds X.K fd ps []) (hx : Passes CX X E) (hr : Room (n + 1) X.A)
    (hne : W.findIn X.K (Value.ref C) (Str.ofString "__ne__") = some (some (Value.builtin "object.__ne__"))) (hm : W.mroIn X.K C (Value.type "object") = some true) : OpR X (compareOp .NotEq) (rNeC X C sp E) := by
  rintro pins s σ H x y v u Q I rx ry ⟨a, dx, fs, rfl, ha, ho, hsp⟩
  cases rx
  obtain ⟨tb, lk, nf⟩ := ho pins σ s u I ry
  obtain ⟨mA, J, _⟩ := ins_get I.hok ha
  obtain ⟨od, J, _⟩ := ObjM.look J
  show wpAny _ _ (richCompare .NotEq _ _) _ _ _
  refine rc_objNe hr.units0 I.kIn J lk nf hne ?_
  refine wpAny_call (codeAny_call_builtin PySem.F.slot_object_ne.plain PySem.F.entry_object_ne (W.check_slot (owner := "object") (n := "__ne__") (by decide +kernel) (by decide +kernel) (W.Looks.andThen (W.InstAt.type J) (W.looks_mroIn I.kIn hm)) (PySem.F.args_object_ne_2 _ _) ?_))
  unfold Builtin.«object.__ne__»
  refine wpAny_bind (m := slotArgs "__ne__" 1 _) (wpAny_of_eq (a := (Value.ref a, [u])) (by first | rfl | kernel_rfl!) ?_)
  refine wpAny_bind (wpAny_cRoomFor hr.in1.units0 ?_)
  have hl := F.len _ _ _ _ hsp
  have r2 : Vals [V.ref a, y] [Value.ref a, u] := Paired.cons rfl (Paired.cons ry Paired.nil)
  have bi := hb s [Value.ref a, u] I.kIn (by simpa using hl)
  rw [List.append_nil] at bi
  have e := I.env0
  have e0 : Env0 X.prog X.w X.K X.mg X.base X.A.in1 X.stack s H := { frames := e.frames, mod := e.mod, bs := e.bs, bsz := e.bsz, funs := e.funs, frf := e.frf, hok := e.hok, bare := e.bare }
  refine wpAny_bind (W.ifBound_K I.kIn J hs hf (wpAny_call (codeAny_mono (F.run X.A.in1 X.stack s H { pos := [Value.ref a, u] } [Value.ref a, u] [V.ref a, y] _ E hr.in1 e0 bi r2 hsp) fun r s' hq => ?_)))
  cases r with
  | error e => exact hx pins σ H s e s' I hq
  | ok fl =>
    cases fl with
    | ret w =>
      obtain ⟨z, H', I', rz, ⟨b, ez, q⟩⟩ := Inv.after I hq
      subst ez
      cases rz
      refine wpAny_bind (wpAny_truthy_bool ?_)
      exact wpAny_pure ⟨⟨_, rfl⟩, .bl (!b), H', I', rfl, q⟩
    | _ => exact hq.elim
end Ow

set_option Elab.async false
set_option linter.all false
set_option maxRecDepth 100000
set_option maxHeartbeats 2000000
namespace Ow
open PySem PySem.Spec PyProof.Rows L2 ItX
/-! ### len(o) by an own __len__ -/
def rLenC (X : Cx) (C : Addr) (sp : Sp) (E : XK) : List V → Hp → VK → Prop := fun xs H Q => ∃ (a dx : Addr) (fs : List (Str × V)), xs = [.ref a] ∧ H a = some (.ins C dx fs) ∧ sp [.ref a] H (fun v H' => ∃ n : Int, v = .int n ∧ 0 ≤ n ∧ n < 2 ^ 63 ∧ Q (.int n) H') E
theorem call_lenOwn {X : Cx} {n : Nat} {CX : CXT} {C f : Addr} {fd : FuncData} {ps : List Str} {sp : Sp} {E : XK} (F : FnOk X.prog X.w X.K X.mg X.base CX n f fd ps sp)
    (hs : W.findIn X.K (Value.ref C) (Str.ofString "__len__") = some (some (Value.ref f))) (hf : W.isFn X.K (Value.ref f) = true) (hb : Binds X.K fd ps []) (hx : Passes CX X E) (hr : Room (n + 1) X.A) : CallR X (.builtin "len") (rLenC X C sp E) := by
  rintro pins s σ H xs us Q I r ⟨a, dx, fs, rfl, ha, hsp⟩
  obtain ⟨u, rfl, ru⟩ := vals1 r
  cases ru
  obtain ⟨mA, J, _⟩ := ins_get I.hok ha
  obtain ⟨od, J, _⟩ := ObjM.look J
  obtain ⟨m, hF⟩ := Inv.fr I
  refine W.len_K hF I.ok.mod.kin J hs hf ?_
  have hl := F.len _ _ _ _ hsp
  have r2 : Vals [V.ref a] [Value.ref a] := Paired.cons rfl Paired.nil
  have bi := hb s [Value.ref a] I.kIn (by simpa using hl)
  rw [List.append_nil] at bi
  have e := I.env0
  have e0 : Env0 X.prog X.w X.K X.mg X.base X.A.in1 X.stack s H := { frames := e.frames, mod := e.mod, bs := e.bs, bsz := e.bsz, funs := e.funs, frf := e.frf, hok := e.hok, bare := e.bare }
  refine wpAny_call (codeAny_mono (F.run X.A.in1 X.stack s H { pos := [Value.ref a] } [Value.ref a] [V.ref a] _ E hr.in1 e0 bi r2 hsp) fun r s' hq => ?_)
  cases r with
  | error e => exact hx pins σ H s e s' I hq
  | ok fl =>
    cases fl with
    | ret w =>
      obtain ⟨z, H', I', rz, ⟨k, ez, k0, k1, q⟩⟩ := Inv.after I hq
      subst ez
      obtain ⟨t, rfl⟩ := rz
      exact ⟨⟨k0, k1⟩, .int k, H', I'.tok _, ⟨_, rfl⟩, q⟩
    | _ => exact hq.elim
end Ow

set_option Elab.async false
set_option linter.all false
set_option maxRecDepth 100000
set_option maxHeartbeats 2000000
namespace Ow
open PySem PySem.Spec PyProof.Rows L2 ItX
/-! ### list(o), o of a class whose __iter__ hands a tuple's iterator out and that has a __len__ -/
def rListC (X : Cx) (C : Addr) (fld : Str) (spL : Sp) : List V → Hp → VK → Prop := fun xs H Q => ∃ (a dx : Addr) (fs : List (Str × V)) (l : Addr) (zs : List V), xs = [.ref a] ∧ H a = some (.ins C dx fs) ∧ fs.lookup fld = some (.ref l) ∧ SqT X.K H l zs ∧
  (∀ H1, H1 a = some (.ins C dx fs) → SqT X.K H1 l zs → spL [.ref a] H1 (fun v H' => v = .int zs.length ∧ H' = H1) fun _ _ _ => False) ∧ ∀ p, H p = none → Q (.ref p) (upd H p (.lst zs))
theorem sqT_upd {K : W.Frag} {H : Hp} {l p : Addr} {zs : List V} {o : HO} (h : SqT K H l zs) (n : H p = none) : SqT K (upd H p o) l zs := by
  refine h.imp (fun r => ?_) id
  have up : ∀ {u : HO}, H l = some u → upd H p o l = some u := fun e => by rw [upd_ne (ne_of_none e n)]; exact e
  rcases r with r | ⟨ob, r⟩
  · exact .inl (up r)
  · exact .inr ⟨ob, up r⟩
theorem call_listC {X : Cx} {n k : Nat} {C f fi : Addr} {fd fdI : FuncData} {ps : List Str} {spL : Sp} {fld x qual p1 : Str} {st : Stmt} {N : List Str}
    (FI : Fun X.K x qual st fi fdI) (Sc : FnScope N [p1] (defScope st)) (bI : Binds X.K fdI [p1] []) (D : ItDef X.prog X.w X.K X.mg X.base k C fi fld qual st N) (hrI : Room (k + 3) X.A) (hxI : Passes CX0 X fun _ _ _ => False)
    (hit : W.findIn X.K (.ref C) "__iter__" = some (some (.ref fi))) (hitF : W.isFn X.K (.ref fi) = true)
    (F : FnOk X.prog X.w X.K X.mg X.base CX0 n f fd ps spL) (hs : W.findIn X.K (.ref C) "__len__" = some (some (.ref f))) (hf : W.isFn X.K (.ref f) = true) (hb : Binds X.K fd ps []) (hr : Room (n + 3) X.A) : CallR X (.type "list") (rListC X C fld spL) := by
  rintro pins s σ H xs us Q I r ⟨a, dx, fs, l, zs, rfl, ha, hfl, hz, hlen, q⟩
  obtain ⟨u, rfl, ru⟩ := vals1 r
  cases ru
  obtain ⟨its, rv, pt, hsz⟩ := I.tuple hz
  have hl := rv.length
  refine callType_codes (Q₁ := fun obj s₁ => obj = .ref s.heap.objs.size ∧ s₁ = { s with heap := s.heap.push { cls := .type "list", data := .seq #[] } }) PySem.F.called_list (PySem.F.typeCall_list_1 _) PySem.F.entry_list_init (code_list_new _ ⟨rfl, rfl⟩) fun obj s₁ h₁ => ?_
  obtain ⟨rfl, rfl⟩ := h₁
  have hS : (s.heap.push { cls := .type "list", data := .seq #[] }).get? s.heap.objs.size = some { cls := .type "list", data := .seq #[] } := Heap.get?_push_size _ rfl
  refine ⟨⟨_, hS, rfl⟩, PySem.F.args_list_init_2 _ _, ?_⟩
  show wpAny _ X.A.in1.in1 (do let old ← Builtin.List.listItems (.ref s.heap.objs.size); Builtin.List.listUpdate (.ref s.heap.objs.size) (fun _ => #[]); letGo old.toList.reverse; Builtin.List.listExtendWith (.ref s.heap.objs.size) (.ref a) .none) _ _ _
  refine wpAny_bind ?_
  unfold Builtin.List.listItems
  refine wpAny_bind (wpAny_seqItems hS rfl (wpAny_pure ?_))
  show wpAny _ X.A.in1.in1 (updateSeq s.heap.objs.size (fun _ => #[]) >>= fun _ => letGo (#[] : Array Value).toList.reverse >>= fun _ => Builtin.List.listExtendWith (.ref s.heap.objs.size) (.ref a) .none) _ _ _
  refine wpAny_bind (wpAny_updateSeq hS rfl ?_)
  have hS2 := Heap.get?_update_self (Obj.mapSeq (fun _ => (#[] : Array Value))) hS rfl
  refine wpAny_bind (wpAny_letGo ?_)
  have up : ∀ (h : Heap) (f : Obj → Obj), (∀ b o, s.heap.get? b = some o → h.get? b = some o) → ∀ b o, s.heap.get? b = some o → (h.update s.heap.objs.size f).get? b = some o := fun h f q b o e =>
    (Heap.get?_update_other _ _ (Ne.symm (Nat.ne_of_lt (Heap.lt_size e)))).trans (q b o e)
  have k1 : ∀ b o, s.heap.get? b = some o → (s.heap.push { cls := .type "list", data := .seq #[] }).get? b = some o := fun b o e => Heap.get?_push_of_some _ e
  have k2 := up _ (Obj.mapSeq (fun _ => (#[] : Array Value))) k1
  generalize ((s.heap.push { cls := .type "list", data := .seq #[] }).update s.heap.objs.size (Obj.mapSeq (fun _ => (#[] : Array Value)))) = h2 at hS2 k2 ⊢
  have hnS : H s.heap.objs.size = none := I.hok.fresh (Nat.le_refl _)
  have I1 : L2.Inv X pins σ (upd H s.heap.objs.size (.lst [])) { s with heap := h2 } := I.laid (t' := s.toks) k2 (Nat.le_refl _) ⟨Nat.zero_le _, [], _, .nil, by rw [hS2]; rfl⟩
  have haS : a ≠ s.heap.objs.size := ne_of_none ha hnS
  have ha1 : upd H s.heap.objs.size (.lst []) a = some (.ins C dx fs) := by rw [upd_ne haS]; exact ha
  have hz1 : SqT X.K (upd H s.heap.objs.size (.lst [])) l zs := sqT_upd hz hnS
  have szS : X.s_0.heap.objs.size ≤ s.heap.objs.size := I.sz
  have sz2 : X.s_0.heap.objs.size ≤ h2.objs.size := I1.sz
  generalize s.heap.objs.size = S at haS ha1 hz1 hnS I1 hS2 szS ⊢
  generalize hH1 : upd H S (.lst []) = H1 at ha1 hz1 I1
  have hS1 : H1 S = some (.lst []) := by rw [← hH1]; exact upd_same
  generalize hs1 : ({ s with heap := h2 } : Shared) = s1 at I1 ⊢
  have hS2 : s1.heap.get? S = some (Obj.mapSeq (fun _ => (#[] : Array Value)) { cls := .type "list", data := .seq #[] }) := by rw [← hs1]; exact hS2
  have sz2 : X.s_0.heap.objs.size ≤ s1.heap.objs.size := by rw [← hs1]; exact sz2
  clear k1 k2 up
  unfold Builtin.List.listExtendWith
  obtain ⟨mA, J, _⟩ := ins_get I1.hok ha1
  obtain ⟨od, J, _⟩ := J.look
  obtain ⟨m, hF⟩ := I1.fr
  refine wpAny_bind (J.type.here ?_)
  have h1 : Builtin.List.listSameRef (.ref S) (.ref a) = false := by simp [Builtin.List.listSameRef, Ne.symm haS]
  have t1 : (Value.ref C == Value.type "list") = false := rfl
  have t2 : (Value.ref C == Value.type "tuple") = false := rfl
  simp only [h1, t1, t2, Bool.or_false, Bool.false_eq_true, if_false]
  have one : Vals [V.ref a] [Value.ref a] := .cons rfl .nil
  have bb : BindsTo s1 fdI ⟨[.ref a], []⟩ ([p1].zip [Value.ref a]) := by
    have b := bI s1 [.ref a] I1.kIn rfl
    simpa using b
  have e := I1.env0
  have e0 : Env0 X.prog X.w X.K X.mg X.base X.A.in1.in1 X.stack s1 H1 := { frames := e.frames, mod := e.mod, bs := e.bs, bsz := e.bsz, funs := e.funs, frf := e.frf, hok := e.hok, bare := e.bare }
  have hrI2 : Room (k + 1) X.A.in1.in1 := hrI.in1.in1
  have go := fn_at (CX := CX0) (E := fun _ _ _ => False) (Q := fun v H' => ∃ it, v = .ref it ∧ H1 it = none ∧ s1.heap.objs.size ≤ it ∧ H' = upd H1 it (ItT l it)) FI Sc (vs := [.ref a]) rfl hrI2 e0 bb one fun cdv => by
    obtain ⟨t, pt, qt⟩ := D cdv X.A.in1.in1 X.stack s1 H1 (fun _ _ _ => False) a dx fs l zs (fun v H' => ∃ it, v = .ref it ∧ H1 it = none ∧ s1.heap.objs.size ≤ it ∧ H' = upd H1 it (ItT l it)) (hrI2.deeper _) ha1 hfl hz1 fun it n o => ⟨it, rfl, n, o, rfl⟩
    exact ⟨t, pt.nox, qt⟩
  refine wpAny_bind (PySem.W.owit_iter hF I1.ok.mod.kin J hit hitF (wpAny_call (codeAny_mono go fun r s2 hq => ?_)))
  cases r with
  | error er =>
    exact hxI pins σ H1 s1 er s2 I1 hq
  | ok fl =>
    cases fl with
    | next => exact False.elim hq
    | brk => exact False.elim hq
    | cont => exact False.elim hq
    | ret u =>
      obtain ⟨_, _, I2, rv2, it, rfl, en, old, rfl⟩ := I1.after hq
      cases rv2
      have g : s2.heap.get? it = some (itT l) := (I2.hok it (ItT l it) upd_same).1
      have hT : s2.TypeIs (.ref it) "tuple_iterator" := ⟨_, g, rfl⟩
      refine wpAny_specialOf hT PySem.F.slot_tuple_iterator_next.lookup ?_
      have hai : a ≠ it := ne_of_none ha1 en
      have ha2 : upd H1 it (ItT l it) a = some (.ins C dx fs) := by rw [upd_ne hai]; exact ha1
      have hz2 : SqT X.K (upd H1 it (ItT l it)) l zs := sqT_upd hz1 en
      have hS3 : upd H1 it (ItT l it) S = some (.lst []) := by rw [upd_ne (ne_of_none hS1 en)]; exact hS1
      generalize hH2 : upd H1 it (ItT l it) = H2 at I2 ha2 hz2 hS3
      refine wpAny_bind (wpAny_holding ?_)
      unfold Builtin.List.listLengthHint
      obtain ⟨mA2, J2, _⟩ := ins_get I2.hok ha2
      obtain ⟨od2, J2, _⟩ := J2.look
      obtain ⟨m2, hF2⟩ := I2.fr
      refine wpAny_bind (wpAny_bind (J2.type.here ((W.looks_findIn I2.kIn hs).here ?_)))
      have e2 := I2.env0
      have e3 : Env0 X.prog X.w X.K X.mg X.base X.A.in1.in1.in1 X.stack s2 H2 := { frames := e2.frames, mod := e2.mod, bs := e2.bs, bsz := e2.bsz, funs := e2.funs, frf := e2.frf, hok := e2.hok, bare := e2.bare }
      have hsp := hlen H2 ha2 hz2
      have one2 : Vals [V.ref a] [Value.ref a] := .cons rfl .nil
      have hl2 := F.len _ _ _ _ hsp
      have bi := hb s2 [Value.ref a] I2.kIn (by simpa using hl2)
      rw [List.append_nil] at bi
      have hrn : Room n X.A.in1.in1.in1 := hr.in1.in1.in1
      show wpAny _ X.A.in1.in1 (rule "list.length-hint.len" >>= fun _ => ((call (Value.builtin "len") [Value.ref a]).attempt >>= _)) _ _ _
      refine wpAny_bind (wpAny_rule (wpAny_bind (wpAny_attempt ?_)))
      refine W.len_K hF2 I2.ok.mod.kin J2 hs hf (wpAny_call (codeAny_mono (F.run X.A.in1.in1.in1 X.stack s2 H2 { pos := [Value.ref a] } [Value.ref a] [V.ref a] _ _ hrn e3 bi one2 hsp) fun r s3 hq => ?_))
      cases r with
      | error er => exact False.elim hq
      | ok fl =>
        cases fl with
        | next => exact False.elim hq
        | brk => exact False.elim hq
        | cont => exact False.elim hq
        | ret w3 =>
          obtain ⟨z, H3, I3, rz, ez, eH⟩ := Inv.after I2 hq
          subst ez
          rw [eH] at I3
          obtain ⟨t, rfl⟩ := rz
          refine ⟨⟨by omega, by have := hsz; have := line63; omega⟩, ?_⟩
          show wpAny _ _ (asInt? (Value.int (zs.length : Int) s3.toks) >>= _) _ _ _
          refine wpAny_bind (wpAny_pure ?_)
          show wpAny _ _ (if Builtin.List.listTooLong (zs.length : Int).toNat = true then _ else pure ((zs.length : Int) != 0)) _ _ _
          rw [if_neg (by unfold Builtin.List.listTooLong; simp; omega)]
          refine wpAny_pure ?_
          have eH2 : dropH H2 it = H1 := by rw [← hH2]; exact dropH_upd en
          have hitH2 : H2 it = some (ItT l it) := by rw [← hH2]; exact upd_same
          have g3 : s3.heap.get? it = some (itT l) := (I3.hok it (ItT l it) hitH2).1
          have d := inv_drop I3 hitH2
          have f := inv_fp I3 hitH2 (Nat.le_trans sz2 old)
          rw [eH2] at d f
          obtain ⟨_, itsS, cS, rS, hS4⟩ := (show ObjOk X.prog X.w H1 s3.heap S (.lst []) from d.hok S _ hS1)
          cases rS
          have hSit : S ≠ it := ne_of_none hS1 en
          have hSl : l ≠ it := by
            obtain ⟨_, _, ⟨o, eo, _⟩, _⟩ := I1.tuple hz1
            exact Nat.ne_of_lt (Nat.lt_of_lt_of_le (Heap.lt_size eo) old)
          have hzd : SqT X.K H1 l zs := hz1
          obtain ⟨its3, rv3, pt3, hsz3⟩ := d.tuple hzd
          have hl3 := rv3.length
          have hhd : X.A.in1.in1.handled = none := hr.hd
          have hSl2 : S ≠ l := fun z => by
            obtain ⟨o, eo, co, _⟩ := pt3
            rw [← z, hS4] at eo
            cases eo
            exact absurd (show Value.type "list" = Value.type "tuple" from co) (by decide)
          have fin : ∀ (h4 : Heap) (t4 c : Nat), h4.get? S = some { cls := .type "list", dict := none, data := .seq #[] c, slots := #[] } → (∀ b o, b ≠ S → s3.heap.get? b = some o → h4.get? b = some o) →
              codeAny (model X.prog X.w) X.A.in1 (.builtin "list.extend.loop" ⟨[.ref S, .ref it, .none], []⟩) (wants (fun r s₂ => r = Value.none ∧ EP X pins σ Q (Value.ref S) s₂) X.xe) { s3 with heap := h4, toks := t4 } := by
            intro h4 t4 c h1 h3
            have st0 : h4.IsTupleIter it l 0 ∧ h4.IsTuple l its3.toArray := ⟨⟨_, h3 it _ (Ne.symm hSit) g3, rfl, rfl⟩, by
              obtain ⟨o, eo, r⟩ := pt3
              exact ⟨o, h3 l o (Ne.symm hSl2) eo, r⟩⟩
            have W := (Walks.tuple (prog := X.prog) (w := X.w) (A := X.A.in1.in1) hhd it l hSl its3.toArray).toS
            refine codeAny_extend_loopS W (by rw [List.size_toArray, ← hl3]; exact hsz3) S (by simp [hSit, hSl2]) .none _ 0 _ #[] c rfl (Nat.zero_le _) st0 h1 (ItemsOf.nil _) fun s' acc' c' hm hS' hacc => ⟨rfl, .ref S, upd H S (.lst zs), ?_, rfl, q S hnS⟩
            rw [Moved.eq_with hm]
            have kp : ∀ b o, b ≠ S → b ≠ it → s3.heap.get? b = some o → s'.heap.get? b = some o := fun b o n1 n2 e => hm.heap b o (by simp [n1, n2]) (h3 b o n1 e)
            have eacc : acc'.toList = its3 := by
              have a1 : acc'.size = its3.length := by simpa using hacc.1
              have a2 := hacc.2
              refine List.ext_getElem? fun i => ?_
              rw [Array.getElem?_toList]
              by_cases hi : i < acc'.size
              · have hv := a2 i acc'[i] (by simp [hi])
                rw [show acc'[i]? = some acc'[i] by simp [hi]]
                simpa using hv.symm
              · rw [Array.getElem?_eq_none (by omega), List.getElem?_eq_none (by omega)]
            have newS : ∀ (Hx : Hp) (h : Heap), h.get? S = s'.heap.get? S → ObjOk X.prog X.w Hx h S (.lst zs) := fun Hx h e => ⟨hsz3, its3, c', rv3, by rw [e, hS', ← eacc]⟩
            have d5 := d.write (x := S) (e := S) (o := .lst zs) (h' := s3.heap.update S fun _ => { cls := .type "list", dict := none, data := .seq acc' c', slots := #[] }) (t' := s3.toks) (by rw [hS1]; trivial) (.inl rfl) (fun b u n e => (Heap.get?_update_other _ _ (Ne.symm n)).trans e)
              ⟨_, Heap.get?_update_self _ hS4 rfl⟩ (newS _ _ (by rw [hS', Heap.get?_update_self _ hS4 rfl]))
            rw [show upd H1 S (.lst zs) = upd H S (.lst zs) by rw [← hH1, upd_upd]] at d5
            obtain ⟨f0, f1, f2, f3, f4, f5⟩ := f
            show L2.Inv X pins σ (upd H S (.lst zs)) { s3 with heap := s'.heap, toks := s'.toks }
            refine Inv.turned (s := { s3 with heap := s3.heap.update S fun _ => { cls := .type "list", dict := none, data := .seq acc' c', slots := #[] } }) d5 (t' := s'.toks) (it := it) (fun b o n e => ?_) (by rw [upd_ne (Ne.symm hSit)]; rw [← hH1, upd_ne (Ne.symm hSit)] at f0; exact f0) f1 f3 f4 f5
            by_cases hbS : b = S
            · subst hbS
              have e2 := (Heap.get?_update_self (fun _ => ({ cls := .type "list", dict := none, data := .seq acc' c', slots := #[] } : Obj)) hS4 rfl).symm.trans e
              rw [hS']
              exact e2
            · exact kp b o hbS n ((Heap.get?_update_other _ _ (Ne.symm hbS)).symm.trans e)
          have again_ : ∀ (h4 : Heap) (t4 c : Nat), h4.get? S = some { cls := .type "list", dict := none, data := .seq #[] c, slots := #[] } → (∀ b o, b ≠ S → s3.heap.get? b = some o → h4.get? b = some o) →
              wpAny (model X.prog X.w) X.A.in1.in1 (again (.builtin "list.extend.loop" ⟨[.ref S, .ref it, .none], []⟩)) (fun fin s' => match fin with
                | .done f => wants (fun r s₂ => r = Value.none ∧ EP X pins σ Q (Value.ref S) s₂) X.xe (.ok f) s'
                | .again c' => c'.quiet = true ∧ codeAny (model X.prog X.w) X.A.in1 c' (wants (fun r s₂ => r = Value.none ∧ EP X pins σ Q (Value.ref S) s₂) X.xe) s')
                (fun e s' => wants (fun r s₂ => r = Value.none ∧ EP X pins σ Q (Value.ref S) s₂) X.xe (.error e) s') { s3 with heap := h4, toks := t4 } := fun h4 t4 c h1 h3 => wpAny_pure ⟨plainId_quiet PySem.F.plain_extend_loop _, fin h4 t4 c h1 h3⟩
          by_cases hze : zs = []
          · subst hze
            exact again_ s3.heap _ cS hS4 fun b o _ e => e
          · have hne : ((zs.length : Int) != 0) = true := by
              cases zs with
              | nil => exact absurd rfl hze
              | cons => simp; omega
            rw [hne]
            show wpAny _ X.A.in1.in1 (rule "list.extend.makes-room" >>= fun _ => Builtin.List.listTouch (.ref S) >>= fun _ => again (.builtin "list.extend.loop" ⟨[.ref S, .ref it, .none], []⟩)) _ _ _
            refine wpAny_bind (wpAny_rule (wpAny_bind ?_))
            show wpAny _ X.A.in1.in1 (updateSeq S (·.push .none) >>= fun _ => updateSeq S (·.pop)) _ _ _
            refine wpAny_bind (wpAny_updateSeq hS4 rfl ?_)
            have hS5 := Heap.get?_update_self (Obj.mapSeq (·.push Value.none)) hS4 rfl
            refine wpAny_updateSeq (hz := by seq_fits) hS5 rfl ?_
            have hS6 := Heap.get?_update_self (Obj.mapSeq (·.pop)) hS5 rfl
            exact again_ _ _ _ hS6 fun b o n e => (Heap.get?_update_other _ _ (Ne.symm n)).trans ((Heap.get?_update_other _ _ (Ne.symm n)).trans e)
end Ow

set_option Elab.async false
set_option linter.all false
set_option maxRecDepth 100000
set_option maxHeartbeats 2000000
namespace Ow
open PySem PySem.Spec PyProof.Rows L2 ItX Sx
/-! ### own classes: what the readings ask -/
/-- facts of an own class that stands beside built-in things -/
structure ClsX (K : W.Frag) (C : Addr) : Prop where
  t : ClsT K C
  kO : W.kitOne K (.ref C) (.ref C) = some true
  kI : W.kitOne K (.type "int") (.ref C) = some false
  kL : W.kitOne K (.type "list") (.ref C) = some false
  kT : W.kitOne K (.type "tuple") (.ref C) = some false
  ne : W.findIn K (.ref C) "__ne__" = some (some (.builtin "object.__ne__"))
  nI : W.notFirst K C (.type "int") = true
  nL : W.notFirst K C (.type "list") = true
  nT : W.notFirst K C (.type "tuple") = true
section
variable {K : W.Frag} {H H1 : Hp} {Q : VK} {p a l C dx : Addr} {fs : List (Str × V)} {xs : List V} {σ : L2.St} {te : TE}
theorem x_isiC (hp : H p = some (.ins C dx fs)) (c : ClsX K C) (k : Q (.bl true) H) : rIsi K [.ref p, .ref C] H Q := ⟨_, _, _, _, true, rfl, .own C, .base (.ins hp c.t.cl c.t.ha c.t.hn c.t.htk c.t.hm), c.kO, k⟩
theorem x_isiCL (hp : H p = some (.lst xs)) (c : ClsX K C) (k : Q (.bl false) H) : rIsi K [.ref p, .ref C] H Q := ⟨_, _, _, _, false, rfl, .own C, .base (.lst hp), c.kL, k⟩
theorem x_isiCT (hp : H p = some (.tup xs)) (c : ClsX K C) (k : Q (.bl false) H) : rIsi K [.ref p, .ref C] H Q := ⟨_, _, _, _, false, rfl, .own C, .base (.tup hp), c.kT, k⟩
theorem x_isiCI {i : Int} (c : ClsX K C) (k : Q (.bl false) H) : rIsi K [.int i, .ref C] H Q := ⟨_, _, _, _, false, rfl, .own C, .base (.int i), c.kI, k⟩
/-! the other side of == -/
theorem oth_of {X : Cx} {y : V} {tb : Value} (ty : TyX X.K H y tb) (n : W.notFirst X.K C tb = true) : Oth X C y H := fun pins σ s v I ry => by
  obtain ⟨P, Z, p, _⟩ := kit_of I ry ty
  exact ⟨tb, Z.ty _ _ I.kIn p, n⟩
theorem oth_ins {X : Cx} (hp : H p = some (.ins C dx fs)) (c : ClsT X.K C) : Oth X C (.ref p) H := oth_of (.base (.ins hp c.cl c.ha c.hn c.htk c.hm)) (by unfold W.notFirst; rw [show (Value.ref C == Value.ref C) = true from beq_self_eq_true _]; rfl)
theorem oth_lst {X : Cx} (hp : H p = some (.lst xs)) (c : ClsX X.K C) : Oth X C (.ref p) H := oth_of (.base (.lst hp)) c.nL
theorem oth_tup {X : Cx} (hp : H p = some (.tup xs)) (c : ClsX X.K C) : Oth X C (.ref p) H := oth_of (.base (.tup hp)) c.nT
theorem oth_int {X : Cx} {i : Int} (c : ClsX X.K C) : Oth X C (.int i) H := oth_of (.base (.int i)) c.nI
/-! readings -/
theorem x_eqC {X : Cx} {sp : Sp} {E : XK} {y : V} (hp : H p = some (.ins C dx fs)) (o : Oth X C y H) (k : sp [.ref p, y] H (fun v H' => (∃ b, v = .bl b) ∧ Q v H') E) : rEqC X C sp E (.ref p) y H Q := ⟨p, dx, fs, rfl, hp, o, k⟩
theorem x_neC {X : Cx} {sp : Sp} {E : XK} {y : V} (hp : H p = some (.ins C dx fs)) (o : Oth X C y H) (k : sp [.ref p, y] H (fun v H' => ∃ b, v = .bl b ∧ Q (.bl (!b)) H') E) : rNeC X C sp E (.ref p) y H Q := ⟨p, dx, fs, rfl, hp, o, k⟩
theorem x_lenC {X : Cx} {sp : Sp} {E : XK} (hp : H p = some (.ins C dx fs)) (k : sp [.ref p] H (fun v H' => ∃ n : Int, v = .int n ∧ 0 ≤ n ∧ n < 2 ^ 63 ∧ Q (.int n) H') E) : rLenC X C sp E [.ref p] H Q := ⟨p, dx, fs, rfl, hp, k⟩
theorem x_listC {X : Cx} {spL : Sp} {fld : Str} (hp : H p = some (.ins C dx fs)) (hf : fs.lookup fld = some (.ref l)) (hz : SqT X.K H l xs) (hl : ∀ H1, H1 p = some (.ins C dx fs) → SqT X.K H1 l xs → spL [.ref p] H1 (fun v H' => v = .int xs.length ∧ H' = H1) fun _ _ _ => False)
    (k : ∀ q H1, Ex H H1 → H q = none → H1 q = some (.lst xs) → Q (.ref q) H1) : rListC X C fld spL [.ref p] H Q := ⟨p, dx, fs, l, xs, rfl, hp, hf, hz, hl, fun q hq => k q _ (Ex.new hq) hq upd_same⟩
theorem x_iOwnT {fld : Str} {R : It → Hp → Prop} (k : te σ H fun x H1 => ∃ (a dx : Addr) (fs : List (Str × V)) (l : Addr) (zs : List V), x = .ref a ∧ H1 a = some (.ins C dx fs) ∧ fs.lookup fld = some (.ref l) ∧ SqT K H1 l zs ∧ R (Itt K l) H1) : iOwnT K C fld te σ H R := k
theorem x_clear (h : H l = some (.lst xs)) (k : Q .non (upd H l (.lst []))) : rClear (.ref l) [] H Q := ⟨l, xs, rfl, rfl, h, k⟩
/-- o.m(..), behind the reading of o -/
def MethK (C : Addr) (m : Str) (sp : Sp) (E : XK) (t : TA) (σ : L2.St) (x : V) (H : Hp) (Q : VK) : Prop := ∃ a dx fs, x = .ref a ∧ H a = some (.ins C dx fs) ∧ fs.lookup m = none ∧ t σ H fun vs H2 => sp (x :: vs) H2 Q E
theorem x_meth {m : Str} {sp : Sp} {E : XK} {t : TA} (k : te σ H fun x H1 => MethK C m sp E t σ x H1 Q) : tMeth C m sp [] E te t σ H Q := by
  show te σ H fun x H1 => ∃ a dx fs, x = .ref a ∧ H1 a = some (.ins C dx fs) ∧ fs.lookup m = none ∧ t σ H1 fun vs H2 => sp (x :: (vs ++ [])) H2 Q E
  have e : (fun (x : V) (H1 : Hp) => ∃ a dx fs, x = .ref a ∧ H1 a = some (.ins C dx fs) ∧ fs.lookup m = none ∧ t σ H1 fun vs H2 => sp (x :: (vs ++ [])) H2 Q E) = fun x H1 => MethK C m sp E t σ x H1 Q := by
    funext x H1
    unfold MethK
    simp only [List.append_nil]
  rw [e]
  exact k
def PropK (C : Addr) (sp : Sp) (E : XK) (x : V) (H : Hp) (Q : VK) : Prop := ∃ a dx fs, x = .ref a ∧ H a = some (.ins C dx fs) ∧ sp [.ref a] H Q E
theorem x_prop {sp : Sp} {E : XK} (k : te σ H fun x H1 => PropK C sp E x H1 Q) : tProp C sp [] E te σ H Q := k
/-- o for the iterator of its field, behind the reading of o -/
def IOwnK (K : W.Frag) (C : Addr) (fld : Str) (x : V) (H1 : Hp) (R : It → Hp → Prop) : Prop := ∃ (a dx : Addr) (fs : List (Str × V)) (l : Addr) (zs : List V), x = .ref a ∧ H1 a = some (.ins C dx fs) ∧ fs.lookup fld = some (.ref l) ∧ SqT K H1 l zs ∧ R (Itt K l) H1
theorem x_iOwn {fld : Str} {R : It → Hp → Prop} (k : te σ H fun x H1 => IOwnK K C fld x H1 R) : iOwnT K C fld te σ H R := k
theorem x_bm0 {T : String} {r : V → List V → Hp → VK → Prop} (k : te σ H fun x H1 => tyV K T x H1 ∧ r x [] H1 Q) : tBM0 K T r te σ H Q := k
theorem NB.ext {φ : Heap → Prop} : NB (.ext φ) := fun _ _ _ _ h => nomatch h
end
/-! a comprehension over a tuple, a loop over one (the iterator of one) -/
section
variable {H H1 : Hp} {K : W.Frag} {σ : L2.St} {Q : VK} {D : Ends} {t : TT} {te : TE} {a : Addr}
theorem lc_itt {xs : List V} {j : Nat} {vs : List Nat} (hx : H1 a = some (.tup xs)) (I : Nat → List V → Hp → Prop) (h0 : I 0 [] H1) (mono : ∀ i acc H H', Tx H H' → I i acc H → I i acc H') (nb : ∀ i acc H, I i acc H → NB (.lst acc) ∧ acc.length < sizeLine)
    (hw : ∀ x, wipe ((wipe σ vs).set j (some x)) vs = wipe σ vs)
    (turn : ∀ (i : Nat) x acc H', xs[i]? = some x → Ex H1 H' → I i acc H' → ∀ kk : Option V → Hp → Prop, (∀ y H4, Ex H' H4 → I (i + 1) (acc ++ [y]) H4 → kk (some y) H4) → (∀ H4, Ex H' H4 → I (i + 1) acc H4 → kk none H4) →
      t ((wipe σ vs).set j (some x)) H' fun b H3 => if b = true then te ((wipe σ vs).set j (some x)) H3 (fun y H4 => kk (some y) H4) else kk none H3)
    (k : ∀ p ys H2, Ex H1 H2 → H1 p = none → H2 p = some (.lst ys) → I xs.length ys H2 → Q (.ref p) H2) : LcGo (Itt K a) (gName j) t te vs σ H1 Q := by
  have hq : ∀ H', Ex H1 H' → SqT K H' a xs := fun H' e => SqT.of (e.kp _ _ hx NB.tup)
  refine lc_any (n := xs.length) I h0 mono nb (fun i H' hi e => ⟨xs, xs[i], hq H' e, by simp [hi]⟩) (fun H' e => ⟨xs, hq H' e, Nat.le_refl _⟩) (fun i acc x H' H'' hi e q y kk k1 k2 => ?_) k
  obtain ⟨rfl, y⟩ := y
  exact ⟨hw _, turn i x acc _ (y xs (hq _ e)) e q kk k1 k2⟩
/-- the iterable, a tuple that stands -/
def TK (K : W.Frag) (x : V) (H1 : Hp) (R : It → Hp → Prop) : Prop := ∃ a, x = .ref a ∧ (∃ xs, SqT K H1 a xs) ∧ R (Itt K a) H1
end
/-! within a comprehension: the rules whose readings name K -/
section
variable {X : Cx} {sB : Shared} {HB : Hp} {scope : Scope} {cenv : Env} {fp : List Addr}
theorem ix_tupB : IxR (X.blk sB HB scope cenv fp) (rIxT X.K) := ix_tup (X := X.blk sB HB scope cenv fp)
theorem ix_listB : IxR (X.blk sB HB scope cenv fp) (rIxL X.K) := ix_list (X := X.blk sB HB scope cenv fp)
theorem op_in_seqB : OpR (X.blk sB HB scope cenv fp) (compareOp .In) (rIn X.K false) := op_in_seq (X := X.blk sB HB scope cenv fp)
theorem op_notIn_seqB : OpR (X.blk sB HB scope cenv fp) (compareOp .NotIn) (rIn X.K true) := op_notIn_seq (X := X.blk sB HB scope cenv fp)
theorem sl_tupB : SlR (X.blk sB HB scope cenv fp) (rSlT X.K) := sl_tup (X := X.blk sB HB scope cenv fp)
theorem sl_tupAB : SlR (X.blk sB HB scope cenv fp) (rSlA X.K) := sl_tupA (X := X.blk sB HB scope cenv fp)
theorem sl_listB : SlR (X.blk sB HB scope cenv fp) (rSlL X.K) := sl_list (X := X.blk sB HB scope cenv fp)
theorem op_catTB : OpR (X.blk sB HB scope cenv fp) (binaryOp .Add) (rCatT X.K) := op_catT (X := X.blk sB HB scope cenv fp)
theorem op_catAB : OpR (X.blk sB HB scope cenv fp) (binaryOp .Add) (rCatA X.K) := op_catA (X := X.blk sB HB scope cenv fp)
theorem call_isiB : CallR (X.blk sB HB scope cenv fp) (.builtin "isinstance") (rIsi X.K) := call_isi (X := X.blk sB HB scope cenv fp)
theorem call_isiTB : CallR (X.blk sB HB scope cenv fp) (.builtin "isinstance") (rIsiT X.K) := call_isiT (X := X.blk sB HB scope cenv fp)
theorem c_lenB : CallR (X.blk sB HB scope cenv fp) (.builtin "len") (Sx.rLen X.K) := Sx.c_len (X := X.blk sB HB scope cenv fp)
theorem op_eqDB (hu : X.A.units + 64 < cLine) : OpR (X.blk sB HB scope cenv fp) (compareOp .Eq) (rEqD X.K) := op_eqD (X := X.blk sB HB scope cenv fp) hu
theorem op_neDB (hu : X.A.units + 64 < cLine) : OpR (X.blk sB HB scope cenv fp) (compareOp .NotEq) (rNeD X.K) := op_neD (X := X.blk sB HB scope cenv fp) hu
end
end Ow

set_option Elab.async false
set_option linter.all false
set_option maxRecDepth 100000
set_option maxHeartbeats 2000000
namespace Ow
open PySem PySem.Spec PyProof.Rows L2 ItX Sx
/-! slices of lists by whole numbers -/
theorem cut_take {xs : List V} {i : Nat} : cutV xs none (some (i : Int)) = xs.take i := by
  unfold cutV
  rw [HT.sIx_nat, HT.sIx_none, List.drop_zero, Nat.sub_zero]
  by_cases h : i ≤ xs.length
  · rw [Nat.min_eq_left h]
  · rw [Nat.min_eq_right (by omega), List.take_of_length_le (Nat.le_refl _), List.take_of_length_le (by omega)]
theorem cut_drop {xs : List V} {i : Nat} : cutV xs (some (i : Int)) none = xs.drop i := by
  unfold cutV
  rw [HT.sIx_nat, HT.sIx_none]
  by_cases h : i ≤ xs.length
  · rw [Nat.min_eq_left h, List.take_of_length_le (by rw [List.length_drop]; exact Nat.le_refl _)]
  · rw [Nat.min_eq_right (by omega), List.drop_eq_nil_of_le (by omega), List.drop_eq_nil_of_le (by omega), List.take_nil]
theorem cut_drop1 {xs : List V} {i : Nat} : cutV xs (some ((i : Int) + 1)) none = xs.drop (i + 1) := by
  rw [show (i : Int) + 1 = ((i + 1 : Nat) : Int) by omega]
  exact cut_drop
theorem cut_drop_one {xs : List V} : cutV xs (some 1) none = xs.drop 1 := cut_drop (i := 1)
theorem cut_take_one {xs : List V} : cutV xs none (some 1) = xs.take 1 := cut_take (i := 1)
/-! lists of addresses alone -/
def Refs (xs : List V) : Prop := ∀ v ∈ xs, ∃ a, v = V.ref a
theorem Refs.nil : Refs [] := fun _ h => nomatch h
theorem Refs.cons {a : Addr} {xs : List V} (h : Refs xs) : Refs (.ref a :: xs) := fun v hv => (List.mem_cons.mp hv).elim (fun e => ⟨a, e⟩) (h v)
theorem Refs.app {xs ys : List V} (h : Refs xs) (h2 : Refs ys) : Refs (xs ++ ys) := fun v hv => (List.mem_append.mp hv).elim (h v) (h2 v)
theorem Refs.cut {xs : List V} {lo hi : Option Int} (h : Refs xs) : Refs (cutV xs lo hi) := fun v hv => h v (by unfold cutV at hv; exact List.mem_of_mem_drop (List.mem_of_mem_take hv))
theorem Refs.rev {xs : List V} (h : Refs xs) : Refs xs.reverse := fun v hv => h v (List.mem_reverse.mp hv)
theorem Refs.drop {xs : List V} {n : Nat} (h : Refs xs) : Refs (xs.drop n) := fun v hv => h v (List.mem_of_mem_drop hv)
theorem Refs.take {xs : List V} {n : Nat} (h : Refs xs) : Refs (xs.take n) := fun v hv => h v (List.mem_of_mem_take hv)
theorem Refs.nb {xs : List V} (h : Refs xs) : NB (.lst xs) := NB.refs h
section
variable {K : W.Frag} {H : Hp} {Q : VK} {a b : Addr} {xs ys : List V}
theorem x_catR (h : H a = some (.tup xs)) (h' : H b = some (.tup ys)) (n1 : xs ≠ []) (l : xs.length + ys.length ≤ sizeLine) (k : ∀ p H1, Ex H H1 → H1 p = some (.tup (xs ++ ys)) → Q (.ref p) H1) : rCatT K (.ref a) (.ref b) H Q :=
  ⟨a, b, xs, ys, rfl, rfl, SqT.of h, SqT.of h', n1, l, fun e => k a H (Ex.refl _) (by rw [e, List.append_nil]; exact h), fun _ p hp => k p _ (Ex.new hp) upd_same⟩
theorem x_slTr {lo hi : Option Int} (h : H a = some (.tup xs)) (hw : ¬ (HT.sIx xs.length 0 lo = 0 ∧ HT.sIx xs.length xs.length hi = xs.length)) (k : ∀ p H1, Ex H H1 → H1 p = some (.tup (cutV xs lo hi)) → Q (.ref p) H1) : rSlT K (.ref a) lo hi H Q :=
  x_slT h hw fun p hp => k p _ (Ex.new hp) upd_same
end
/-- two ways to one value: what follows is done once -/
theorem x_iteM {c : Bool} {ta tb : TE} {σ : L2.St} {H1 : Hp} {Q : VK} (R : V → Hp → Prop) (kR : ∀ (Q' : VK), (∀ v H2, R v H2 → Q' v H2) → ta σ H1 Q' ∧ tb σ H1 Q') (k : ∀ v H2, R v H2 → Q v H2) : if c = true then ta σ H1 Q else tb σ H1 Q := by
  obtain ⟨h1, h2⟩ := kR Q k
  cases c with
  | true => exact h1
  | false => exact h2
end Ow

set_option Elab.async false
set_option linter.all false
set_option maxRecDepth 100000
set_option maxHeartbeats 2000000
namespace Ow
open PySem PySem.Spec PyProof.Rows L2 ItX Sx
/-! ### tuple * int, all cases -/
theorem tuple_mul_same (l : Addr) (items : Array Value) (n : Nat) (dd : Option Addr) (sl : Array (Option Value)) (x : Int) (u : Tok) (c0 : (decide (x < -(2 ^ 63)) || decide (x ≥ 2 ^ 63)) = false) (c1 : (items.isEmpty || x == 1) = true) :
    Meets (Builtin.«tuple.__mul__» ⟨[.ref l, .int x u], []⟩) (fun _ R s => s.heap.get? l = some { cls := .type "tuple", dict := dd, data := .seq items n, slots := sl } ∧ R (.ok (.ret (Value.ref l))) s) :=
  .of_wp fun prog w A R s h => by
    obtain ⟨hp, g, d, tk, os⟩ := s
    obtain ⟨hl, h⟩ := h
    have f1 := AutoSeq1.idx_int
    wp_walk using wpAny_loadPart' hl
    repeat (first
      | (refine wpAny_ite_false (decide_eq_false (by rw [c0]; exact Bool.false_ne_true)) ?_; wp_walk using wpAny_loadPart' hl)
      | (refine wpAny_ite_true (decide_eq_true (by rw [c1])) ?_; wp_walk using wpAny_loadPart' hl))
    all_goals exact ⟨_, rfl, h⟩
theorem tuple_mul_nil (l : Addr) (items : Array Value) (n : Nat) (dd : Option Addr) (sl : Array (Option Value)) (x : Int) (u : Tok) (c0 : (decide (x < -(2 ^ 63)) || decide (x ≥ 2 ^ 63)) = false) (c1 : (items.isEmpty || x == 1) = false) (c2 : (decide (x ≤ 0) || items.isEmpty) = true) :
    Meets (Builtin.«tuple.__mul__» ⟨[.ref l, .int x u], []⟩) (fun _ R s => s.heap.get? l = some { cls := .type "tuple", dict := dd, data := .seq items n, slots := sl } ∧
      R (.ok (.ret (Value.ref s.heap.objs.size))) { s with heap := s.heap.push { cls := Value.type "tuple", data := Data.seq #[] }, toks := s.toks }) :=
  .of_wp fun prog w A R s h => by
    obtain ⟨hp, g, d, tk, os⟩ := s
    obtain ⟨hl, h⟩ := h
    have f1 := AutoSeq1.idx_int
    wp_walk using wpAny_loadPart' hl
    repeat (first
      | (refine wpAny_ite_false (decide_eq_false (by rw [c0]; exact Bool.false_ne_true)) ?_; wp_walk using wpAny_loadPart' hl)
      | (refine wpAny_ite_false (decide_eq_false (by rw [c1]; exact Bool.false_ne_true)) ?_; wp_walk using wpAny_loadPart' hl)
      | (refine wpAny_ite_true (decide_eq_true (by rw [c2])) ?_; wp_walk using wpAny_loadPart' hl))
    all_goals exact ⟨_, rfl, h⟩
def rRepA (K : W.Frag) : R2 := fun x y H Q => ∃ l k xs, x = .ref l ∧ y = .int k ∧ SqT K H l xs ∧ -1000 ≤ k ∧ k ≤ 1000 ∧ xs.length ≤ 1000 ∧ ((xs = [] ∨ k = 1) → Q (.ref l) H) ∧ ((xs ≠ [] ∧ k ≠ 1) → ∀ p, H p = none → Q (.ref p) (upd H p (.tup (List.replicate k.toNat xs).flatten)))
theorem op_repA {X : Cx} : OpR X (binaryOp .Mult) (rRepA X.K) := by
  intro pins s σ H x y v u Q I rx ry h
  obtain ⟨l, k, xs, rfl, rfl, hT, h1, h2, hz, q1, q2⟩ := h
  by_cases big : xs ≠ [] ∧ 2 ≤ k
  · exact op_repT pins s σ H _ _ v u Q I rx ry ⟨l, k, xs, rfl, rfl, hT, big.1, big.2, h2, hz, q2 ⟨big.1, by omega⟩⟩
  cases rx
  obtain ⟨t, rfl⟩ := ry
  obtain ⟨its, r, ⟨⟨cls, dd, data, sl⟩, ho, hc, n, hd⟩, hs⟩ := I.tuple hT
  simp only at hc hd
  subst hc hd
  have hle : its.length = xs.length := r.length.symm
  have c0 : (decide (k < -(2 ^ 63)) || decide (k ≥ 2 ^ 63)) = false := by
    rw [decide_eq_false (by omega), decide_eq_false (by omega)] <;> rfl
  have em : its.toArray.isEmpty = decide (xs = []) := by
    cases xs with
    | nil =>
      have e : its = [] := List.eq_nil_of_length_eq_zero (by simpa using hle)
      rw [e]; rfl
    | cons a b =>
      cases its with
      | nil => simp at hle
      | cons c d => rfl
  by_cases same : xs = [] ∨ k = 1
  · have c1 : (its.toArray.isEmpty || k == 1) = true := by
      rw [em]
      rcases same with e | e
      · rw [decide_eq_true e]; rfl
      · rw [e]; simp
    exact wpAny_binaryOp_repeat_ref (T := "tuple") (U := "int") (by decide) ⟨_, ho, rfl⟩ (fun s' => typeIs_int s' k t) noFill_tuple_mul PySem.F.fills_int_mul PySem.F.slot_int_rmul repeat_tuple PySem.F.slot_int_index.lookup
      (call_meets PySem.F.slot_int_rmul (typeIs_int s k t) PySem.F.entry_int_rmul (PySem.F.args_int_rmul_2 _ _) (int_rmul_tuple k t l its.toArray n dd sl)
        ⟨ho, rfl, ⟨_, ho, rfl⟩, call_meets PySem.F.slot_tuple_mul ⟨_, ho, rfl⟩ PySem.F.entry_tuple_mul (PySem.F.args_tuple_mul_2 _ _) (tuple_mul_same l its.toArray n dd sl k t c0 c1) ⟨ho, .ref l, H, I, rfl, q1 same⟩⟩)
  · have ne : xs ≠ [] := fun e => same (.inl e)
    have k1 : k ≠ 1 := fun e => same (.inr e)
    have k0 : k ≤ 0 := by
      rcases Int.lt_or_le 0 k with h | h
      · exact absurd ⟨ne, by omega⟩ big
      · exact h
    have c1 : (its.toArray.isEmpty || k == 1) = false := by
      rw [em, decide_eq_false ne, Bool.false_or]
      exact beq_eq_false_iff_ne.mpr k1
    have c2 : (decide (k ≤ 0) || its.toArray.isEmpty) = true := by rw [decide_eq_true k0]; rfl
    have q := q2 ⟨ne, k1⟩
    rw [show k.toNat = 0 by omega] at q
    refine wpAny_binaryOp_repeat_ref (T := "tuple") (U := "int") (by decide) ⟨_, ho, rfl⟩ (fun s' => typeIs_int s' k t) noFill_tuple_mul PySem.F.fills_int_mul PySem.F.slot_int_rmul repeat_tuple PySem.F.slot_int_index.lookup
      (call_meets PySem.F.slot_int_rmul (typeIs_int s k t) PySem.F.entry_int_rmul (PySem.F.args_int_rmul_2 _ _) (int_rmul_tuple k t l its.toArray n dd sl)
        ⟨ho, rfl, ⟨_, ho, rfl⟩, call_meets PySem.F.slot_tuple_mul ⟨_, ho, rfl⟩ PySem.F.entry_tuple_mul (PySem.F.args_tuple_mul_2 _ _) (tuple_mul_nil l its.toArray n dd sl k t c0 c1 c2) ⟨ho, ?_⟩⟩)
    refine ⟨.ref s.heap.objs.size, _, I.laid (t' := s.toks) (o := .tup []) (fun b ob q => Heap.get?_push_of_some _ q) (Nat.le_refl _) ?_, rfl, q _ (I.hok.fresh (Nat.le_refl _))⟩
    exact ⟨Nat.zero_le _, [], .nil, IsTup.new _ _⟩
/-! ### o * o of one own class, ~o -/
def rBinC (C : Addr) (sp : Sp) (E : XK) : R2 := fun x y H Q => ∃ (a dx : Addr) (fs : List (Str × V)) (b dy : Addr) (gs : List (Str × V)), x = .ref a ∧ y = .ref b ∧ H a = some (.ins C dx fs) ∧ H b = some (.ins C dy gs) ∧ sp [x, y] H (fun v H' => (∃ r, v = .ref r) ∧ Q v H') E
theorem op_mulOwn {X : Cx} {n : Nat} {CX : CXT} {C f : Addr} {fd : FuncData} {ps : List Str} {sp : Sp} {E : XK} (F : FnOk X.prog X.w X.K X.mg X.base CX n f fd ps sp)
    (hc : W.selfFirst X.K C = true) (hs : W.findIn X.K (Value.ref C) (Str.ofString "__mul__") = some (some (Value.ref f))) (hf : W.isFn X.K (Value.ref f) = true) (hb : Binds X.K fd ps []) (hx : Passes CX X E) (hr : Room n X.A) : OpR X (binaryOp .Mult) (rBinC C sp E) := by
  rintro pins s σ H x y v u Q I rx ry ⟨a, dx, fs, b, dy, gs, rfl, rfl, ha, hbb, hsp⟩
  cases rx
  cases ry
  obtain ⟨mA, J, _⟩ := ins_get I.hok ha
  obtain ⟨od, J, _⟩ := ObjM.look J
  obtain ⟨mB, JB, _⟩ := ins_get I.hok hbb
  obtain ⟨odB, JB, _⟩ := ObjM.look JB
  obtain ⟨m, hF⟩ := Inv.fr I
  refine W.binop_K hF I.ok.mod.kin J JB.type hc hs hf ?_
  have hl := F.len _ _ _ _ hsp
  have r2 : Vals [V.ref a, V.ref b] [Value.ref a, Value.ref b] := Paired.cons rfl (Paired.cons rfl Paired.nil)
  have bi := hb s [Value.ref a, Value.ref b] I.kIn (by simpa using hl)
  rw [List.append_nil] at bi
  refine wpAny_call (codeAny_mono (F.run X.A X.stack s H { pos := [Value.ref a, Value.ref b] } [Value.ref a, Value.ref b] [V.ref a, V.ref b] _ E hr I.env0 bi r2 hsp) fun r s' hq => ?_)
  cases r with
  | error e => exact hx pins σ H s e s' I hq
  | ok fl =>
    cases fl with
    | ret w =>
      obtain ⟨z, H', I', rz, ⟨r, ez⟩, q⟩ := Inv.after I hq
      subst ez
      cases rz
      exact ⟨.ref r, H', I', rfl, q⟩
    | _ => exact hq.elim
def rInvC (C : Addr) (sp : Sp) (E : XK) : V → Hp → VK → Prop := fun x H Q => ∃ (a dx : Addr) (fs : List (Str × V)), x = .ref a ∧ H a = some (.ins C dx fs) ∧ sp [x] H Q E
theorem un_invOwn {X : Cx} {n : Nat} {CX : CXT} {C f : Addr} {fd : FuncData} {ps : List Str} {sp : Sp} {E : XK} (F : FnOk X.prog X.w X.K X.mg X.base CX n f fd ps sp)
    (hs : W.findIn X.K (Value.ref C) (Str.ofString "__invert__") = some (some (Value.ref f))) (hf : W.isFn X.K (Value.ref f) = true) (hb : Binds X.K fd ps []) (hx : Passes CX X E) (hr : Room n X.A) : UnR X (unaryOp .Invert) (rInvC C sp E) := by
  rintro pins s σ H x v Q I rx ⟨a, dx, fs, rfl, ha, hsp⟩
  cases rx
  obtain ⟨mA, J, _⟩ := ins_get I.hok ha
  obtain ⟨od, J, _⟩ := ObjM.look J
  obtain ⟨m, hF⟩ := Inv.fr I
  unfold unaryOp
  refine wpAny_holding ?_
  have hl := F.len _ _ _ _ hsp
  have r2 : Vals [V.ref a] [Value.ref a] := Paired.cons rfl Paired.nil
  have bi := hb s [Value.ref a] I.kIn (by simpa using hl)
  rw [List.append_nil] at bi
  refine wpAny_bind (m := callSpecial? (.ref a) (Str.ofString "__invert__")) (W.special_fn I.kIn J hs (beq_iff_eq.mp hf) ?_)
  refine wpAny_call (codeAny_mono (F.run X.A X.stack s H { pos := [Value.ref a] } [Value.ref a] [V.ref a] _ E hr I.env0 bi r2 hsp) fun r s' hq => ?_)
  cases r with
  | error e => exact hx pins σ H s e s' I hq
  | ok fl =>
    cases fl with
    | ret w =>
      obtain ⟨z, H', I', rz, q⟩ := Inv.after I hq
      exact wpAny_pure ⟨z, H', I', rz, q⟩
    | _ => exact hq.elim
end Ow

set_option Elab.async false
set_option linter.all false
set_option maxRecDepth 100000
set_option maxHeartbeats 2000000
namespace Er
open PySem PySem.Spec PyProof.Rows L2 Sx
/-! ### methods and classes whose call may raise -/
def tMethS (C : Addr) (m : Str) (sp : Sp) (E : L2.St → XK) (ta : TE) (t : TA) : TE := fun σ H Q => ta σ H fun x H1 => ∃ a dx fs, x = .ref a ∧ H1 a = some (.ins C dx fs) ∧ fs.lookup m = none ∧ t σ H1 fun vs H2 => sp (x :: vs) H2 Q (E σ)
def tMakeS (C : Addr) (sp : Sp) (E : L2.St → XK) (t : TA) : TE := fun σ H Q => t σ H fun vs H1 => ∀ x dx, H1 x = none → H1 dx = none → dx ≠ x → sp (.ref x :: vs) (upd (upd H1 dx (.own x)) x (.ins C dx [])) (fun v H2 => v = .non ∧ Q (.ref x) H2) (E σ)
section
variable {X : Cx} {CX : CXT} {k : Nat} {f C : Addr} {fd : FuncData} {ps : List Str} {sp : Sp} {E : L2.St → XK} {x m : Str} {p pos apos : Pos} {e o : Expr} {es : List Expr} {ta : TE} {t : TA}
theorem run_makeS {pins : List (Addr × Obj)} {σ : L2.St} {H : Hp} {s : Shared} {Q : VK} {us : List Value} {vs : List V} (M : Mk X.K C f) (F : FnOk X.prog X.w X.K X.mg X.base CX k f fd ps sp) (hr : Room (k + 1) X.A) (hb : Binds X.K fd ps [])
    (hx : PassesAt CX X σ (E σ)) (I : Inv X pins σ H s) (r : Vals vs us)
    (h : ∀ x dx, H x = none → H dx = none → dx ≠ x → sp (.ref x :: vs) (upd (upd H dx (.own x)) x (.ins C dx [])) (fun v H2 => v = .non ∧ Q (.ref x) H2) (E σ)) :
    wpAny (model X.prog X.w) X.A (call (.ref C) us) (EP X pins σ Q) X.xe s := by
  have hq := h (s.heap.objs.size + 1) s.heap.objs.size (I.hok.fresh (Nat.le_succ _)) (I.hok.fresh (Nat.le_refl _)) (Nat.ne_of_lt (Nat.lt_succ_self _))
  have I2 := Inv.made (C := C) I
  have r2 : Vals (V.ref (s.heap.objs.size + 1) :: vs) (Value.ref (s.heap.objs.size + 1) :: us) := .cons rfl r
  have hl : (Value.ref (s.heap.objs.size + 1) :: us ++ []).length = ps.length := by
    have e := r2.length
    rw [F.len _ _ _ _ hq] at e
    rw [List.append_nil]
    exact e.symm
  have b := hb _ (Value.ref (s.heap.objs.size + 1) :: us) I2.kIn hl
  rw [List.append_nil] at b
  refine wpAny_call (make_map (f := f) I.kIn M.makes M.init (beq_iff_eq.mp M.fn) (codeAny_mono (F.run _ X.stack _ _ ⟨Value.ref (s.heap.objs.size + 1) :: us, []⟩ (Value.ref (s.heap.objs.size + 1) :: us) _ _ (E σ) (hr.make C us [])
    (I2.env0.make C us []) b r2 hq) fun r s' hq' => ?_))
  cases r with
  | error e => exact hx pins _ _ e s' I2 hq'
  | ok fl =>
    cases fl with
    | ret u =>
      obtain ⟨v, H', I3, rv, ev, q3⟩ := I2.after hq'
      subst ev
      exact ⟨rv, ⟨V.ref (s.heap.objs.size + 1), H', I3, rfl, q3⟩⟩
    | next => exact False.elim hq'
    | brk => exact False.elim hq'
    | cont => exact False.elim hq'
theorem pe_makeS (M : Mk X.K C f) (F : FnOk X.prog X.w X.K X.mg X.base CX k f fd ps sp) (hr : Room (k + 1) X.A) (hg : Gl X x) (hm : X.mg x = some (.ref C)) (hb : Binds X.K fd ps []) (hx : ∀ σ, PassesAt CX X σ (E σ))
    (ha : PA X (e :: es) t) (hdb : (x == ("__debug__" : Str)) = false := by decide) (he : starEach (e :: es) X.env = (false, eval e X.env) :: starEach es X.env := by rfl) (hpl : (backTo pos (starEach es X.env)).any (·.1) = false := by rfl) :
    PE X (.Call (.Name x p) (e :: es) [] pos) (tMakeS C sp E t) := by
  refine ⟨fun pins s σ H Q I h => ?_⟩
  refine wpAny_Call_Name_kw (ld_glob I hg hm ?_ hdb)
  refine PySem.W.callWith_K (h₀ := X.base) I.ok.mod.kin M.kp (thn (ha.run pos pins s σ H _ I h) fun us s1 ⟨vs, H1, I1, r, q⟩ => ⟨I1.kIn, ?_⟩) he hpl
  exact run_makeS M F hr hb (hx σ) I1 r q
theorem pe_methS {pl : Sem Bool} (he : PE X o ta) (c : Cls X.K C) (hm : Meth X.K C m f) (F : FnOk X.prog X.w X.K X.mg X.base CX k f fd ps sp) (hr : Room k X.A) (hb : Binds X.K fd ps []) (hx : ∀ σ, PassesAt CX X σ (E σ)) (ha : PA X (e :: es) t)
    (hst : starEach (e :: es) X.env = (false, eval e X.env) :: starEach es X.env := by rfl) (hpl : (backTo pos (starEach es X.env)).any (·.1) = false := by rfl)
    (ht : eval (.Call (.Attribute o m apos) (e :: es) [] pos) X.env = (do
      let ov ← eval o X.env
      standAt apos.atName
      let (f, first) ← holding [ov] (getMethod ov m pl)
      callWith pos f first (backTo pos (starEach (e :: es) X.env)) (backToKw pos (keywordEach [] X.env))) := by rfl) :
    PE X (.Call (.Attribute o m apos) (e :: es) [] pos) (tMethS C m sp E ta t) := by
  refine ⟨fun pins s σ H Q I h => ?_⟩
  refine PySem.W.methodCall_KW (pl := pl) (thn (he.run pins s σ H _ I h) fun u s1 ⟨x, H1, I1, rx, a, dx, fs, ex, ea, l, q⟩ => ?_) ht
  subst ex
  obtain rfl : u = Value.ref a := rx
  refine getmeth_ok I1 ea c hm l ?_
  refine PySem.W.callWith_K (first := [.ref a]) (h₀ := X.base) I.ok.mod.kin hm.kp (thn (ha.run pos pins s1 σ H1 _ I1 q) fun us s2 ⟨vs, H2, I2, r, q2⟩ => ⟨I2.kIn, ?_⟩) hst hpl
  exact run_fnS (us := .ref a :: us) (vs := .ref a :: vs) F hr hb (hx σ) I2 (.cons rfl r) q2
end
section
variable {H : Hp} {Q : VK} {σ : L2.St} {te : TE} {C : Addr}
def MethKS (C : Addr) (m : Str) (sp : Sp) (E : XK) (t : TA) (σ : L2.St) (x : V) (H : Hp) (Q : VK) : Prop := ∃ a dx fs, x = .ref a ∧ H a = some (.ins C dx fs) ∧ fs.lookup m = none ∧ t σ H fun vs H2 => sp (x :: vs) H2 Q E
theorem x_methS {m : Str} {sp : Sp} {E : L2.St → XK} {t : TA} (k : te σ H fun x H1 => MethKS C m sp (E σ) t σ x H1 Q) : tMethS C m sp E te t σ H Q := k
theorem x_makeS {sp : Sp} {E : L2.St → XK} {t : TA} (k : t σ H fun vs H1 => ∀ x dx, H1 x = none → H1 dx = none → dx ≠ x → sp (.ref x :: vs) (upd (upd H1 dx (.own x)) x (.ins C dx [])) (fun v H2 => v = .non ∧ Q (.ref x) H2) (E σ)) : tMakeS C sp E t σ H Q := k
theorem x_isN {x : V} (k : Q (.bl (decide (x = .non))) H) : (fun (x y : V) (H : Hp) (Q : VK) => y = .non ∧ Q (.bl (decide (x = .non))) H) x .non H Q := ⟨rfl, k⟩
end
end Er

set_option Elab.async false
set_option linter.all false
set_option maxRecDepth 100000
set_option maxHeartbeats 2000000
namespace Ow
open PySem PySem.Spec PyProof.Rows L2 ItX Sx RT
section
variable {K : W.Frag} {H H1 : Hp} {Q : VK} {a b l C dx : Addr} {xs ys : List V} {σ : L2.St} {te : TE} {t : TT} {fs gs : List (Str × V)}
theorem x_catA (h : H a = some (.tup xs)) (h' : H b = some (.tup ys)) (l : xs.length + ys.length ≤ sizeLine) (k : ∀ p H1, Ex H H1 → H1 p = some (.tup (xs ++ ys)) → Q (.ref p) H1) : rCatA K (.ref a) (.ref b) H Q :=
  ⟨a, b, xs, ys, rfl, rfl, SqT.of h, SqT.of h', l, fun e => k b H (Ex.refl _) (by rw [e, List.nil_append]; exact h'), fun _ e => k a H (Ex.refl _) (by rw [e, List.append_nil]; exact h), fun _ _ p hp => k p _ (Ex.new hp) upd_same⟩
theorem x_slA {lo hi : Option Int} (h : H a = some (.tup xs)) (k : ∀ p H1, Ex H H1 → H1 p = some (.tup (cutV xs lo hi)) → Q (.ref p) H1) : rSlA K (.ref a) lo hi H Q :=
  ⟨a, xs, rfl, SqT.of h, fun e => k a H (Ex.refl _) (by unfold cutV; rw [e.1, e.2, List.drop_zero, Nat.sub_zero, List.take_of_length_le (Nat.le_refl _)]; exact h), fun _ p hp => k p _ (Ex.new hp) upd_same⟩
theorem x_repA {n : Int} (h : H a = some (.tup xs)) (h1 : -1000 ≤ n) (h2 : n ≤ 1000) (hl : xs.length ≤ 1000) (k : ∀ p H1, Ex H H1 → H1 p = some (.tup (List.replicate n.toNat xs).flatten) → Q (.ref p) H1) : rRepA K (.ref a) (.int n) H Q := by
  refine ⟨a, n, xs, rfl, rfl, SqT.of h, h1, h2, hl, fun e => k a H (Ex.refl _) ?_, fun _ p hp => k p _ (Ex.new hp) upd_same⟩
  rcases e with e | e
  · rw [h, e]
    congr 2
    induction n.toNat with
    | zero => rfl
    | succ m ih => rw [List.replicate_succ, List.flatten_cons, ← ih]; rfl
  · rw [h, e]
    simp
theorem x_repL {n : Int} (h : H a = some (.lst xs)) (h1 : -1000 ≤ n) (h2 : n ≤ 1000) (hl : xs.length ≤ 1000) (k : ∀ p H1, Ex H H1 → H p = none → H1 p = some (.lst (List.replicate n.toNat xs).flatten) → Q (.ref p) H1) : rRep (.ref a) (.int n) H Q := by
  refine ⟨a, n, xs, rfl, rfl, h, by omega, by omega, ?_, fun p hp => k p _ (Ex.new hp) hp upd_same⟩
  have a1 : xs.length * n.toNat ≤ 1000 * 1000 := Nat.mul_le_mul hl (by omega)
  exact Nat.le_trans a1 (by decide)
theorem x_invC {sp : Sp} {E : XK} (hp : H a = some (.ins C dx fs)) (k : sp [.ref a] H Q E) : rInvC C sp E (.ref a) H Q := ⟨a, dx, fs, rfl, hp, k⟩
theorem x_binC {sp : Sp} {E : XK} {dy : Addr} (hp : H a = some (.ins C dx fs)) (hq : H b = some (.ins C dy gs)) (k : sp [.ref a, .ref b] H (fun v H' => (∃ r, v = .ref r) ∧ Q v H') E) : rBinC C sp E (.ref a) (.ref b) H Q := ⟨a, dx, fs, b, dy, gs, rfl, rfl, hp, hq, k⟩
/-- reversed(a tuple) -/
def RevK (K : W.Frag) (x : V) (H1 : Hp) (R : It → Hp → Prop) : Prop := ∃ (a : Addr) (xs : List V), x = .ref a ∧ ((SqL K H1 a xs ∧ R (Itv K a xs.length) H1) ∨ (SqT K H1 a xs ∧ R (ItvT K a xs.length) H1))
theorem x_iRev {R : It → Hp → Prop} (k : te σ H fun x H1 => RevK K x H1 R) : iRevA K te σ H R := k
theorem lc_rev {j : Nat} {vs : List Nat} (hx : H1 a = some (.tup xs)) (I : Nat → List V → Hp → Prop) (h0 : I 0 [] H1) (mono : ∀ i acc H H', Tx H H' → I i acc H → I i acc H') (nb : ∀ i acc H, I i acc H → NB (.lst acc) ∧ acc.length < sizeLine)
    (hw : ∀ x, wipe ((wipe σ vs).set j (some x)) vs = wipe σ vs)
    (turn : ∀ (i : Nat) x acc H', xs.reverse[i]? = some x → Ex H1 H' → I i acc H' → ∀ kk : Option V → Hp → Prop, (∀ y H4, Ex H' H4 → I (i + 1) (acc ++ [y]) H4 → kk (some y) H4) → (∀ H4, Ex H' H4 → I (i + 1) acc H4 → kk none H4) →
      t ((wipe σ vs).set j (some x)) H' fun b H3 => if b = true then te ((wipe σ vs).set j (some x)) H3 (fun y H4 => kk (some y) H4) else kk none H3)
    (k : ∀ p ys H2, Ex H1 H2 → H1 p = none → H2 p = some (.lst ys) → I xs.length ys H2 → Q (.ref p) H2) : RevK K (.ref a) H1 fun J H2 => LcGo J (gName j) t te vs σ H2 Q := by
  have hq : ∀ H', Ex H1 H' → SqT K H' a xs := fun H' e => SqT.of (e.kp _ _ hx NB.tup)
  refine ⟨a, xs, rfl, .inr ⟨SqT.of hx, lc_any (n := xs.length) I h0 mono nb (fun i H' hi e => ⟨hi, xs, xs[xs.length - 1 - i], hq H' e, by simp⟩) (fun H' e => Nat.le_refl _) (fun i acc x H' H'' hi e q y kk k1 k2 => ?_) k⟩⟩
  obtain ⟨rfl, y⟩ := y
  refine ⟨hw _, turn i x acc _ ?_ e q kk k1 k2⟩
  rw [List.getElem?_reverse hi]
  exact y xs (hq _ e)
end
theorem x_iteMD {c : Prop} [Decidable c] {ta tb : TE} {σ : L2.St} {H1 : Hp} {Q : VK} (R : V → Hp → Prop) (kA : c → ∀ (Q' : VK), (∀ v H2, R v H2 → Q' v H2) → ta σ H1 Q') (kB : ¬ c → ∀ (Q' : VK), (∀ v H2, R v H2 → Q' v H2) → tb σ H1 Q') (k : ∀ v H2, R v H2 → Q v H2) : if decide c = true then ta σ H1 Q else tb σ H1 Q := by
  by_cases h : c
  · rw [decide_eq_true h, if_pos rfl]; exact kA h Q k
  · rw [decide_eq_false h, if_neg Bool.false_ne_true]; exact kB h Q k
section
variable {X : Cx} {sB : Shared} {HB : Hp} {scope : Scope} {cenv : Env} {fp : List Addr} {e : Expr} {ta : TE} {f : Str} {pos : Pos}
theorem pe_fldB (he : PE (X.blk sB HB scope cenv fp) e ta) (hb : attributeBase e f (X.blk sB HB scope cenv fp).env (eval e (X.blk sB HB scope cenv fp).env) = eval e (X.blk sB HB scope cenv fp).env) : PE (X.blk sB HB scope cenv fp) (.Attribute e f pos) (tFld X.K ta f) := pe_fld (X := X.blk sB HB scope cenv fp) he hb
end
end Ow

set_option Elab.async false
set_option linter.all false
set_option maxRecDepth 100000
set_option maxHeartbeats 2000000
/-! a lambda handed to a def that calls it where an error may come -/
namespace Er
open PySem PySem.Spec PyProof.Rows L2 Sx
section
variable {X : Cx}
/-- the body of a lambda, entered at s: an error E may leave it -/
abbrev lamN (X : Cx) (A : Around) (outer : List Env) (s : Shared) (H : Hp) (E : XK) (scope : Scope) (f c' : Addr) : Cx :=
  (LamX.lamCx X A outer s H E scope f c').wish fun e s' => wpAny (model X.prog X.w) (A.deeper (LamX.lamEnv X scope s.heap.objs.size f c')) (leaving (LamX.lamEnv X scope s.heap.objs.size f c') e)
    (fun _ s'' => L2N.CX X.prog X.w outer H s E e s'') (fun e' s'' => L2N.CX X.prog X.w outer H s E e' s'') s'
theorem lamN_takes {A : Around} {outer : List Env} {s : Shared} {H : Hp} {E : XK} {scope : Scope} {f c' : Addr} : L2N.Takes (lamN X A outer s H E scope f c') (fun cls d _ H => E cls d H) :=
  L2N.takes_of rfl rfl rfl rfl
theorem lamN_passes {A : Around} {outer : List Env} {s : Shared} {H : Hp} {E : XK} {scope : Scope} {f c' : Addr} : Passes (L2N.CX X.prog X.w) (lamN X A outer s H E scope f c') E :=
  L2N.passes_call lamN_takes fun _ _ _ _ h => h
/-- what the def that was handed the lambda stands in -/
abbrev hrd (P : Program) (w : World) (K : PySem.W.Frag) (mg : Str → Option Value) (base : Heap) (A : Around) (st : List Env) (N : List Str) (q : Str) (sg : Scope) (g : Addr) (cd : Value) (s : Shared) (H : Hp) : Cx := cxOf C8.CX0 P w K mg base N q sg g cd A st s H C8.E0
/-- a() is the lambda's reading tb; its errors are W's, at the state where it is called -/
def Act (Z : Cx) (a : Str) (f c' : Addr) (q : Str) (tb : XK → Hp → VK → Prop) : Prop :=
  ∀ (W : WX) (pn : List (Addr × Obj)) (xe : Value → Shared → Prop) (p1 p2 : Pos), L2N.Takes (Z.tr pn xe) W →
    PE (Z.tr pn xe) (.Call (.Name a p1) [] [] p2) (fun σZ HZ Q => σZ[0]? = some (some (.ref f)) ∧ HZ c' = some (LamX.CodeO c' q) ∧ tb (fun cls d H' => W cls d σZ H') HZ Q)
/-- the def that calls what it was handed -/
def Hears (P : Program) (w : World) (K : PySem.W.Frag) (mg : Str → Option Value) (base : Heap) (A : Around) (st : List Env) (N : List Str) (x : Str) (sg : Scope) (g : Addr) (cd : Value) (bg : List Stmt) (a : Str) (q : Str) (TT : (XK → Hp → VK → Prop) → Hp → VK → Prop) : Prop :=
  ∀ (f c' : Addr) (s : Shared) (H : Hp) (Q : VK) (tl : XK → Hp → VK → Prop), Act (hrd P w K mg base A st N x sg g cd s H) a f c' q tl → H c' = some (LamX.CodeO c' q) → TT tl H Q →
    ∃ t, PSs (hrd P w K mg base A st N x sg g cd s H).nox bg t ∧ t { nx := fun _ H' => Q .non H', rt := Q } (L2.start N [.ref f]) H
theorem act_of {pins : List (Addr × Obj)} {σ : L2.St} {H : Hp} {s : Shared} {N : List Str} {qg : Str} {sg : Scope} {g f c' : Addr} {cd pm ctv : Value} {params : Arguments} {body : Expr} {scope : Scope} {k : Nat} {a : Str} {t : XK → TE}
    (I : Inv X pins σ H s) (L : LamX.LamS X.env.scope scope) (hf : s.heap.get? f = some (PySem.W.kla_obj "<lambda>" (X.env.qual ++ "<lambda>") params body scope (cloFrom X.env.cells scope.names []) pm c' ctv)) (hn : H f = none) (hfr : f ∉ frs X.stack)
    (hb : bindArgs (PySem.W.kla_fn "<lambda>" (X.env.qual ++ "<lambda>") params body scope (cloFrom X.env.cells scope.names []) pm (.ref c') ctv) ⟨[], []⟩ = pure [])
    (hr : Room (k + 1) (X.A.deeper (envOfC qg sg s.heap.objs.size g cd)))
    (hbody : ∀ (A : Around) (outer : List Env) (s : Shared) (H : Hp) (E : XK), Room k (A.deeper (LamX.lamEnv X scope s.heap.objs.size f c')) → PE (lamN X A outer s H E scope f c') body (t E))
    (hN : N[0]? = some a) (hv : Vis sg a) (hd : (a == ("__debug__" : Str)) = false) (hcd : (a == ("__classdict__" : Str)) = false) :
    Act (hrd X.prog X.w X.K X.mg X.base X.A X.stack N qg sg g cd s H) a f c' (X.env.qual ++ "<lambda>") (fun E H' Q' => t E σ H' Q') := by
  intro W pn xe p1 p2 tk
  refine ⟨fun pZ sZ σZ HZ Q IZ h => ?_⟩
  obtain ⟨h0, hc, ht⟩ := h
  generalize hE : (fun (cls : Value) (d : Option Addr) (H' : Hp) => W cls d σZ H') = E at ht
  have rd := (pe_var (X := (hrd X.prog X.w X.K X.mg X.base X.A X.stack N qg sg g cd s H).tr pn xe) (pos := p1) (i := 0) hN hv hd hcd).run pZ sZ σZ HZ (fun v H1 => v = .ref f ∧ H1 = HZ) IZ ⟨.ref f, h0, rfl, rfl⟩
  refine wpAny_Call_Name_kw (thn rd ?_)
  rintro u s1 ⟨v, H1, I1, r1, ev, eH⟩
  subst ev
  subst eH
  obtain rfl : u = Value.ref f := r1
  have of1 := I1.base.keep f _ hf hn hfr (fun z => nomatch (show f ∈ ([] : List Addr) from z))
  refine PySem.W.callWith_F0 ⟨_, _, _, _, of1⟩ (wpAny_call ?_)
  have un : Un (frs X.stack) [] H H1 s.heap s1.heap := I1.base
  obtain ⟨⟨oc, vs, tok, g1, g2, g3⟩, _, _⟩ := I1.hok c' _ hc
  have rc : codeAny (model X.prog X.w) (X.A.deeper (envOfC qg sg s.heap.objs.size g cd)) (.call (.ref f) ⟨[], []⟩) (CR (L2N.CX X.prog X.w) (envOfC qg sg s.heap.objs.size g cd :: X.stack) X.prog X.w H1 s1 Q E) s1 := by
    refine PySem.W.kla_callFunE hr.depth of1 rfl L.co L.gen rfl ⟨c', oc, vs, tok, rfl, g1, g2, g3⟩ ?_
    rw [hb]
    refine wpAny_pure (wpAny_newFunctionEnv (fun y hy => (L.own y hy).2) (fun y hy => absurd hy (by simp)) (fun h1 ns sb => ⟨I1.nolimit.fresh _ sb, ?_⟩) L.kind)
    have kp : ∀ b o, s1.heap.get? b = some o → h1.get? b = some o := fun b o e => sb.extBut b o (Nat.ne_of_lt (Heap.lt_size e)) (Heap.get?_push_of_some _ e)
    have J := (LamX.lam_start2 (E := E) (f := f) (c' := c') (tk := s1.toks + ([] : List (Str × Value)).length) I L I1.env0 hr.hd un ns kp).wish fun e s' =>
      wpAny (model X.prog X.w) ((X.A.deeper (envOfC qg sg s.heap.objs.size g cd)).deeper (LamX.lamEnv X scope s1.heap.objs.size f c')) (leaving (LamX.lamEnv X scope s1.heap.objs.size f c') e)
        (fun _ s'' => L2N.CX X.prog X.w (envOfC qg sg s.heap.objs.size g cd :: X.stack) H1 s1 E e s'') (fun e' s'' => L2N.CX X.prog X.w (envOfC qg sg s.heap.objs.size g cd :: X.stack) H1 s1 E e' s'') s'
    refine PySem.W.kla_codeExpr (wpAny_mono ((hbody _ _ s1 H1 E (hr.deeper _)).run [] _ _ H1 Q J ht) ?_ fun e s' hq => hq)
    rintro v s' ⟨w', H', J', rv, q⟩
    exact ⟨w', H', J'.os, J'.bare, J'.base, J'.hok, rv, q⟩
  refine codeAny_mono rc fun r s' hq => ?_
  cases r with
  | error e =>
    subst hE
    exact L2N.passAt tk σZ pZ H1 s1 e s' I1 hq
  | ok fl =>
    cases fl with
    | ret u => exact I1.after hq
    | next => exact False.elim hq
    | brk => exact False.elim hq
    | cont => exact False.elim hq
/-- x(lambda: body), x a def that hears -/
theorem pe_hear {T : List (Addr × Str)} {TT : (XK → Hp → VK → Prop) → Hp → VK → Prop} {x a : Str} {g c P : Addr} {k : Nat} {pg : Arguments} {bg : List Stmt} {sg : Scope} {dV kV doc pm cdv ct oc : Value} {an od : Option Addr} {osl : Array (Option Value)} {N : List Str}
    {params : Arguments} {body : Expr} {scope : Scope} {t : XK → TE} {p lpos pos : Pos} (hg : Gl X x) (hm : X.mg x = some (.ref g)) (hk : PySem.W.keepIn X.K (.ref g) = true)
    (lk : X.K.lookup g = some ⟨oc, od, .func (PySem.W.fnOf x x pg bg sg dV kV doc pm an cdv ct), osl⟩) (hcg : PySem.W.codeIn X.K cdv x = true) (hb : L2.Binds X.K (PySem.W.fnOf x x pg bg sg dV kV doc pm an cdv ct) [a] []) (S : FnScope N [a] sg) (hN : N[0]? = some a) (hva : Vis sg a)
    (hG : Hears X.prog X.w X.K X.mg X.base X.A X.stack N x sg g cdv bg a (X.env.qual ++ "<lambda>") TT)
    (TB : LamX.TabB X.base X.mg c P) (hcode : X.env.code = .ref c) (hmT : (P, X.env.qual ++ "<lambda>") ∈ T) (hu : ∀ p ∈ T, p.1 = P → p.2 = X.env.qual ++ "<lambda>") (hr : Room (k + 2) X.A) (L : LamX.LamS X.env.scope scope) (hdef : defaultsOf params X.env = ([], []))
    (hbind : ∀ (q : Str) (cl : List (Str × Addr)) (pm cv ctv : Value), bindArgs (PySem.W.kla_fn "<lambda>" q params body scope cl pm cv ctv) ⟨[], []⟩ = pure [])
    (hbody : ∀ (A : Around) (outer : List Env) (s : Shared) (H : Hp) (E : XK) (f c' : Addr), Room k (A.deeper (LamX.lamEnv X scope s.heap.objs.size f c')) → PE (lamN X A outer s H E scope f c') body (t E))
    (hdb : (x == ("__debug__" : Str)) = false := by decide) (hd : (a == ("__debug__" : Str)) = false := by decide) (hcd : (a == ("__classdict__" : Str)) = false := by decide) :
    PE X (.Call (.Name x p) [.Lambda params body scope lpos] [] pos) (LamX.tLam T TT t) := by
  refine ⟨fun pins s σ H Q I h => ?_⟩
  refine wpAny_Call_Name_kw (ld_glob I hg hm (PySem.W.callWith_K (h₀ := X.base) I.ok.mod.kin hk ?_ (by rfl) (by rfl)) hdb)
  show wpAny _ _ (spliced ((false, eval (.Lambda params body scope lpos) X.env) :: backTo pos (starEach [] X.env))) _ _ s
  refine Calls.spliced_cons (LamX.lam_make2 I TB hcode hmT hu h.1 hdef (L.has I.ok) ?_)
  intro f c' pm' ctv H1 s1 I1 eN T1 hf hfn hfr hco
  refine Calls.spliced_nil ⟨I1.kIn, wpAny_call ?_⟩
  have rc : codeAny (model X.prog X.w) X.A (.call (.ref g) ⟨[.ref f], []⟩) (CR C8.CX0 X.stack X.prog X.w H1 s1 Q C8.E0) s1 := by
    refine LamX.run_ofS (N := N) (ps := [a]) (us := [.ref f]) (vs := [.ref f]) lk hcg S hr I1.env0 (hb s1 [.ref f] I1.kIn rfl) (.cons rfl .nil) rfl ?_
    intro hr'
    have A := act_of (X := X) (t := t) I1 L hf hfn hfr (hbind _ _ _ _ _) hr' (fun A outer s H E hr2 => hbody A outer s H E f c' hr2) hN hva hd hcd
    obtain ⟨u, hu1, hu2⟩ := hG f c' s1 H1 Q _ A hco (h.2 H1 eN T1)
    exact ⟨u, hu1.nox, hu2⟩
  refine codeAny_mono rc fun r s2 hq => ?_
  cases r with
  | error e => exact (show False from hq).elim
  | ok fl =>
    cases fl with
    | ret u => exact I1.after hq
    | next => exact False.elim hq
    | brk => exact False.elim hq
    | cont => exact False.elim hq
/-- the same, of a def of the text -/
theorem pe_hearF {T : List (Addr × Str)} {TT : (XK → Hp → VK → Prop) → Hp → VK → Prop} {x a : Str} {g c P : Addr} {k : Nat} {st : Stmt} {fd : FuncData} {N : List Str} {params : Arguments} {body : Expr} {scope : Scope} {t : XK → TE} {p lpos pos : Pos}
    (F : Fun X.K x x st g fd) (hm : X.mg x = some (.ref g)) (hg : Gl X x) (hb : L2.Binds X.K fd [a] []) (S : FnScope N [a] (defScope st)) (hN : N[0]? = some a) (hva : Vis (defScope st) a)
    (hG : ∀ cdv, Hears X.prog X.w X.K X.mg X.base X.A X.stack N x (defScope st) g cdv (defBody st) a (X.env.qual ++ "<lambda>") TT)
    (TB : LamX.TabB X.base X.mg c P) (hcode : X.env.code = .ref c) (hmT : (P, X.env.qual ++ "<lambda>") ∈ T) (hu : ∀ p ∈ T, p.1 = P → p.2 = X.env.qual ++ "<lambda>") (hr : Room (k + 2) X.A) (L : LamX.LamS X.env.scope scope) (hdef : defaultsOf params X.env = ([], []))
    (hbind : ∀ (q : Str) (cl : List (Str × Addr)) (pm cv ctv : Value), bindArgs (PySem.W.kla_fn "<lambda>" q params body scope cl pm cv ctv) ⟨[], []⟩ = pure [])
    (hbody : ∀ (A : Around) (outer : List Env) (s : Shared) (H : Hp) (E : XK) (f c' : Addr), Room k (A.deeper (LamX.lamEnv X scope s.heap.objs.size f c')) → PE (lamN X A outer s H E scope f c') body (t E))
    (hdb : (x == ("__debug__" : Str)) = false := by decide) (hd : (a == ("__debug__" : Str)) = false := by decide) (hcd : (a == ("__classdict__" : Str)) = false := by decide) :
    PE X (.Call (.Name x p) [.Lambda params body scope lpos] [] pos) (LamX.tLam T TT t) := by
  obtain ⟨oc, od, kV, doc, pm, an, cdv, ct, osl, rfl, lk, hcd2⟩ := F.ex
  exact pe_hear hg hm F.kp lk hcd2 hb S hN hva (hG cdv) TB hcode hmT hu hr L hdef hbind hbody hdb hd hcd
end
end Er

set_option Elab.async false
set_option linter.all false
set_option maxRecDepth 100000
set_option maxHeartbeats 2000000
/-! what stays where lambdas are made: the tables of code objects grow -/
namespace Er
open PySem PySem.Spec PyProof.Rows L2 Sx
/-- all but bags and tables stands as it stood, bags are bags, the tables T are tables -/
structure Ew (T : List (Addr × Str)) (H H' : Hp) : Prop where
  kp : ∀ a o, H a = some o → NB o → (∀ ps, o ≠ .tbl ps) → H' a = some o
  bg : ∀ b c, BagC b c H → BagC b c H'
  tb : LamX.Tabs T H → LamX.Tabs T H'
theorem NB.tbl {ps : Array Value} : NB (.tbl ps) := fun _ _ _ _ h => nomatch h
theorem codeO_nb {c : Addr} {q : Str} : NB (LamX.CodeO c q) := Ow.NB.ext
section
variable {T : List (Addr × Str)} {H H1 H2 : Hp} {p a b c l P : Addr} {q : Str} {o : HO} {xs : List V}
theorem Ex.tabS (e : Ex H H1) (t : LamX.TabS H P q) : LamX.TabS H1 P q := by
  obtain ⟨ps, h1, h2, h3⟩ := t
  refine ⟨ps, e.kp _ _ h1 NB.tbl, h2, fun pos cv hc => ?_⟩
  obtain ⟨c, e1, e2⟩ := h3 pos cv hc
  exact ⟨c, e1, e.kp _ _ e2 codeO_nb⟩
theorem Ew.of (e : Ex H H1) : Ew T H H1 := ⟨fun a o h n _ => e.kp a o h n, e.bg, fun t p hp => Ex.tabS e (t p hp)⟩
theorem Ew.refl : Ew T H H := ⟨fun _ _ h _ _ => h, fun _ _ h => h, fun h => h⟩
theorem Ew.trans (e : Ew T H H1) (f : Ew T H1 H2) : Ew T H H2 := ⟨fun a o h n t => f.kp a o (e.kp a o h n t) n t, fun b c h => f.bg b c (e.bg b c h), fun t => f.tb (e.tb t)⟩
theorem Ew.lam (n : LamX.ExtN H H1) (t : LamX.Tabs T H1) : Ew T H H1 :=
  ⟨fun a o h _ k => n a o h k, fun b c ⟨x, y, z, ns, e1, e2, r⟩ => ⟨x, y, z, ns, n _ _ e1 (fun _ h => nomatch h), n _ _ e2 (fun _ h => nomatch h), r⟩, fun _ => t⟩
theorem Ew.bag (e : Ew T H H1) (h : Bag b H) : Bag b H1 := let ⟨c, q⟩ := h; ⟨c, e.bg b c q⟩
theorem Ew.tup (e : Ew T H H1) (h : H a = some (.tup xs)) : H1 a = some (.tup xs) := e.kp _ _ h NB.tup (fun _ h => nomatch h)
theorem Ew.lst (e : Ew T H H1) (h : H a = some (.lst xs)) (n : NB (.lst xs)) : H1 a = some (.lst xs) := e.kp _ _ h n (fun _ h => nomatch h)
theorem Ew.ins {C dx : Addr} {fs : List (Str × V)} (e : Ew T H H1) (h : H a = some (.ins C dx fs)) : H1 a = some (.ins C dx fs) := e.kp _ _ h NB.ins (fun _ h => nomatch h)
theorem Ew.dK {kvs : List (Key × V)} (e : Ew T H H1) (h : H a = some (.dK kvs)) : H1 a = some (.dK kvs) := e.kp _ _ h NB.dK (fun _ h => nomatch h)
/-- a list made in between may be changed -/
theorem Ew.mut (e : Ew T H H1) (h : H l = none) (hl : H1 l = some (.lst xs)) : Ew T H (upd H1 l o) := by
  refine ⟨fun a o' q n t => ?_, fun b c q => ?_, fun t p hp => ?_⟩
  · rw [upd_ne (ne_of_none q h)]
    exact e.kp a o' q n t
  · obtain ⟨x0, y0, z0, ns0, k1, k2, _⟩ := id q
    obtain ⟨x, y, z, ns, e1, e2, r⟩ := e.bg b c q
    exact ⟨x, y, z, ns, by rw [upd_ne (ne_of_none k1 h)]; exact e1, by rw [upd_ne (ne_of_none k2 h)]; exact e2, r⟩
  · obtain ⟨ps0, k0, _⟩ := t p hp
    obtain ⟨ps, h1, h2, h3⟩ := e.tb t p hp
    refine ⟨ps, by rw [upd_ne (ne_of_none k0 h)]; exact h1, h2, fun pos cv hc => ?_⟩
    obtain ⟨c, e1, e2⟩ := h3 pos cv hc
    have nl : c ≠ l := by
      intro z
      subst z
      rw [hl] at e2
      exact nomatch (Option.some.inj e2)
    exact ⟨c, e1, by rw [upd_ne nl]; exact e2⟩
variable {TT : (XK → Hp → VK → Prop) → Hp → VK → Prop} {t : XK → TE} {σ : L2.St} {Q : VK}
theorem x_hear (h : LamX.Tabs T H) (k : ∀ H1, Ew T H H1 → LamX.Tabs T H1 → TT (fun E H' Q' => t E σ H' Q') H1 Q) : LamX.tLam T TT t σ H Q :=
  ⟨h, fun H1 n t1 => k H1 (Ew.lam n t1) t1⟩
end
end Er
namespace Er
open PySem PySem.Spec PyProof.Rows L2 Sx
/-! ### how often a truth stands in a list of truths -/
def isB (b : Bool) : Value → Bool
  | .bool c => c == b
  | _ => false
theorem bls_count {b : Bool} : ∀ {bs : List Bool} {us : List Value}, Vals (bs.map V.bl) us → us.countP (isB b) = bs.count b ∧ ∀ (A : Around) (s : Shared), ∀ y ∈ us, SeqAt.EqAt A s y (.bool b) (isB b y)
  | [], us, r => by
    cases r
    exact ⟨rfl, fun _ _ y hy => nomatch hy⟩
  | c :: bs, us, r => by
    cases r with
    | cons h r =>
      rename_i u us
      obtain rfl : u = .bool c := h
      obtain ⟨h1, h2⟩ := bls_count r
      refine ⟨?_, fun A s y hy => ?_⟩
      · rw [List.countP_cons, List.count_cons, h1]
        rfl
      · rcases List.mem_cons.mp hy with e | e
        · rw [e]
          exact SeqAt.EqAt.bool_bool c b
        · exact h2 A s y e
def rCntB (K : PySem.W.Frag) : V → List V → Hp → VK → Prop := fun x xs H Q => ∃ (p : Addr) (bs : List Bool) (b : Bool), x = .ref p ∧ xs = [.bl b] ∧ SqL K H p (bs.map V.bl) ∧ Q (.int (bs.count b : Nat)) H
theorem mt_countB {X : Cx} : MtR X "list.count" (rCntB X.K) := by
  intro pins s σ H x xs v us Q I rx rxs h
  obtain ⟨p, bs, b, rfl, rfl, hs, q⟩ := h
  cases rx
  obtain ⟨u, rfl, ru⟩ := rxs.one
  obtain rfl : u = .bool b := ru
  obtain ⟨its, rv, ⟨⟨cls, dd, data, sl⟩, n, ho, hc, hdn, hd⟩, hlen⟩ := I.list hs
  simp only at hc hd
  subst hc hd
  obtain ⟨h1, h2⟩ := bls_count (b := b) rv
  refine call_meets PySem.F.slot_list_count ⟨_, ho, rfl⟩ PySem.F.entry_list_count (PySem.F.args_list_count_2 _ _)
    (SeqAt.list_countAt p its.toArray n dd sl (.bool b) (isB b)) ⟨ho, fun y hy => h2 _ _ y (by simpa using hy), ?_⟩
  refine ⟨.int (bs.count b : Nat), H, I.tok _, ⟨s.toks, ?_⟩, q⟩
  show Value.int ((its.toArray.toList.countP (isB b) : Nat) : Int) s.toks = Value.int ((bs.count b : Nat) : Int) s.toks
  rw [show its.toArray.toList.countP (isB b) = bs.count b from h1]
theorem x_countB {K : PySem.W.Frag} {H : Hp} {Q : VK} {p : Addr} {bs : List Bool} {b : Bool} (h : H p = some (.lst (bs.map V.bl))) (k : Q (.int (bs.count b : Nat)) H) : rCntB K (.ref p) [.bl b] H Q := ⟨p, bs, b, rfl, rfl, SqL.of h, k⟩
end Er
namespace Er
open PySem PySem.Spec PyProof.Rows L2 Sx
/-! ### what names K, within the suite of an except -/
section
variable {X : Cx} {z : Addr} {pn : List (Addr × Obj)} {T : String} {name : Str} {id : String} {r : V → List V → Hp → VK → Prop} {o e : Expr} {es : List Expr} {to : TE} {t : TA} {apos cpos : Pos}
theorem ix_listS : IxR (X.suite z pn) (rIxL X.K) := ix_list (X := X.suite z pn)
theorem mt_countS : MtR (X.suite z pn) "list.count" (rCntB X.K) := mt_countB (X := X.suite z pn)
theorem pe_bmS (pa : PlainAttrs T) (slot : Slot T name id) (hty : typeOf (.builtin id) = pure (.type "method_descriptor")) (hm : MtR (X.suite z pn) id r) (ho : PE (X.suite z pn) o to) (ha : PA (X.suite z pn) (e :: es) t)
    (hbase : attributeBase o name (X.suite z pn).env (eval o (X.suite z pn).env) = eval o (X.suite z pn).env := by rfl)
    (hfew : ((backTo cpos (starEach (e :: es) (X.suite z pn).env)).all (fun x => !x.1) && (backToKw cpos (keywordEach [] (X.suite z pn).env)).all (fun x => x.1.isSome)
      && decide ((e :: es).length + ([] : List Keyword).length + (if ([] : List Keyword).isEmpty then 0 else 1) < 30)) = true := by rfl)
    (hline : (apos.endLine == cpos.line) = true := by rfl) (hs : starEach (e :: es) (X.suite z pn).env = (false, eval e (X.suite z pn).env) :: starEach es (X.suite z pn).env := by rfl) (hplain : (backTo cpos (starEach es (X.suite z pn).env)).any (·.1) = false := by rfl) :
    PE (X.suite z pn) (.Call (.Attribute o name apos) (e :: es) [] cpos) (tBM X.K T r to t) := pe_bm (X := X.suite z pn) pa slot hty hm ho ha hbase hfew hline hs hplain
end
end Er

set_option Elab.async false
set_option linter.all false
set_option maxRecDepth 100000
set_option maxHeartbeats 2000000
/-! the end of a law that shows data and makes lambdas -/
namespace Er
open PySem PySem.Spec PyProof.Rows L2 Sx Ow
section
variable {P : Program} {w : World} {K : PySem.W.Frag} {mg mb : Str → Option Value} {k : Nat} {fa a : Addr} {fd : FuncData} {x : Str} {sp : Sp} {s : Shared} {vs : List Value} {ns : List Int} {cs : List (Addr × Addr)}
abbrev tab0 : Obj := { cls := .none, data := .fields #[] }
theorem law_fromT {H : Hp} (KX : K.In s.heap) (hns : s.heap.Ns mainGlobals mg) (hb : s.heap.Ns builtinsNs mb) (hbb : ∀ x : Str, x ≠ "__name__" → mb x = bootBuiltins x) (lim : s.heap.NoLimit) (hg : s.gens = #[])
    (hT : ∀ p ∈ cs, s.heap.get? p.2 = some tab0) (nT : ∀ p ∈ cs, K.lookup p.2 = none) (C : ∀ p ∈ cs, PySem.W.codeHdIn K p.1 p.2 = true)
    (hbm : ∃ (bm : Addr) (ob : Obj), mg "__builtins__" = some (.ref bm) ∧ bm ≠ builtinsNs ∧ s.heap.get? bm = some ob ∧ ob.cls = .type "module" ∧ ob.dict = some builtinsNs ∧ ob.data = .plain)
    (at_ : s.heap.get? a = some { cls := .type "list", data := .seq vs.toArray }) (hr : Room k callerA)
    (F : ∀ base : Heap, K.In base → base.Ns mainGlobals mg → (∀ p ∈ cs, LamX.TabB base mg p.1 p.2) → FnG P w K mg base CX0 k fa fd [x] sp) (bind : ∀ (s : Shared) (u : Value), BindsTo s fd ⟨[u], []⟩ [(x, u)])
    (hsp : sp [.ref a] H (fun v _ => v = .bl true) fun _ _ _ => False) (ok : HOk P w H s.heap) (here : ∀ b, H b ≠ none → b = a ∨ ∃ p ∈ cs, p.2 = b) (frz : ∀ u, H a = some u → ∃ o xs, u = .frz o (.lst xs)) (tbs : ∀ p ∈ cs, H p.2 = some (.tbl #[])) (out : H a ≠ none → K.lookup a = none) :
    codeAny (model P w) callerA (.call (.ref fa) ⟨[.ref a], []⟩) (fun r s' => r = .ok (.ret (.bool true)) ∧ OldK s.heap s'.heap ∧ s'.os = s.os ∧ AllBare s'.gens) s := by
  have away : ∀ {b : Addr}, b ≠ a → (∀ p ∈ cs, p.2 ≠ b) → H b = none := fun {b} n m => by
    cases e : H b with
    | none => rfl
    | some u =>
      rcases here b (by rw [e]; exact nofun) with z | ⟨p, hp, z⟩
      · exact absurd z n
      · exact absurd z (m p hp)
  have other : ∀ {b : Addr} {o : Obj}, s.heap.get? b = some o → (∀ xs n, o.data ≠ .seq xs n) → (∀ xs, o.data ≠ .fields xs) → H b = none := fun {b o} e d1 d2 => away (fun z => by
    rw [z, at_] at e
    cases e
    exact d1 _ _ rfl) fun p hp z => by
    rw [← z, hT p hp] at e
    cases e
    exact d2 _ rfl
  have dict : ∀ {b : Addr} {o : Obj} {es : Array DictEntry} {n : Nat}, s.heap.get? b = some o → o.data = .dict es n → H b = none := fun e d => other e (fun _ _ z => by rw [d] at z; cases z) (fun _ z => by rw [d] at z; cases z)
  have kin : ∀ {b : Addr} {o : Obj}, K.lookup b = some o → H b = none := fun {b o} e => by
    by_cases z : b = a
    · cases q : H a with
      | none => rw [z]; exact q
      | some u =>
        have := out (by rw [q]; exact nofun)
        rw [z, this] at e
        cases e
    · exact away z fun p hp y => by
        rw [← y, nT p hp] at e
        cases e
  have KB : K.In (hidT s.heap H) := fun b o e => hidT_get (KX b o e) (kin e)
  have nsB : ∀ {b : Addr} {m : Str → Option Value}, s.heap.Ns b m → (hidT s.heap H).Ns b m := fun {b m} ⟨o, es, n, e, d, r⟩ => ⟨o, es, n, hidT_get e (dict e d), d, r⟩
  have md : Mod K mg (hidT s.heap H) := ⟨KB, nsB hns, ⟨mb, nsB hb, hbb⟩, by obtain ⟨mc, l1, l2⟩ := lim; exact ⟨mc, nsB l1, l2⟩⟩
  have gl : ∀ p ∈ cs, mainGlobals ≠ p.2 := fun p hp z => by
    obtain ⟨o, es, n, e, d, _⟩ := hns
    rw [z, hT p hp] at e
    cases e
    cases d
  have TB : ∀ p ∈ cs, LamX.TabB (hidT s.heap H) mg p.1 p.2 := fun p hp => by
    refine ⟨PySem.W.codeHd_of_K KB (C p hp), ?_, gl p hp⟩
    obtain ⟨bm, ob, b1, b2, b3, b4, b5, b6⟩ := hbm
    refine ⟨bm, ob, b1, b2, fun z => ?_, fun z => ?_, hidT_get b3 (other b3 (fun _ _ z => by rw [b6] at z; cases z) (fun _ z => by rw [b6] at z; cases z)), b4, b5, b6⟩
    · obtain ⟨o, es, n, e, d, _⟩ := hns
      rw [z, e] at b3
      cases b3
      rw [d] at b6
      cases b6
    · rw [z, hT p hp] at b3
      cases b3
      cases b6
  have env : Env0 P w K mg (hidT s.heap H) callerA [] s H := ⟨rfl, md, fun b o e => of_hidT e, by rw [hidT_size]; exact Nat.le_refl _, trivial, fun b z => (nomatch z), ok, .of_eq hg⟩
  refine codeAny_mono ((F _ KB (nsB hns) TB).go callerA [] s H ⟨[.ref a], []⟩ [.ref a] [.ref a] _ _ rfl hr env (bind s _) (.cons rfl .nil) hsp) fun way sE z => ?_
  match way, z with
  | .ok (.ret u), ⟨v, H', e1, e2, un, ok', rv, (q : v = .bl true)⟩ =>
    subst q
    cases rv
    have same : ∀ b o, (∀ p ∈ cs, p.2 ≠ b) → s.heap.get? b = some o → sE.heap.get? b = some o := fun b o m e => by
      by_cases z : H b = none
      · exact un.keep b o e z (fun m => nomatch m) (fun m => nomatch m)
      · rcases here b z with y | ⟨p, hp, y⟩
        · subst y
          cases q : H b with
          | none => exact absurd q z
          | some u =>
            obtain ⟨o', xs, rfl⟩ := frz u q
            have f1 := (ok b _ q).1
            rw [e] at f1
            cases f1
            exact (ok' b _ (un.frzs b _ _ q)).1
        · exact absurd y (m p hp)
    have grown : ∀ p ∈ cs, ∃ more : Array Value, sE.heap.get? p.2 = some { cls := .none, data := .fields (#[] ++ more) } := fun p hp => by
      obtain ⟨more, z⟩ := un.tbls p.2 #[] (tbs p hp)
      exact ⟨more, ok' p.2 _ z⟩
    refine ⟨rfl, ⟨fun b o e => ?_, fun b o e => ?_⟩, e1, e2⟩
    · by_cases m : ∃ p ∈ cs, p.2 = b
      · obtain ⟨p, hp, y⟩ := m
        obtain ⟨more, z⟩ := grown p hp
        subst y
        rw [hT p hp] at e
        cases e
        exact .inr (.inl ⟨((PySem.W.codeHd_of_K KX (C p hp)).tab (hT p hp)).isCodeTable, rfl, #[], more, rfl, z⟩)
      · exact .inl (same b o (fun p hp y => m ⟨p, hp, y⟩) e)
    · by_cases m : ∃ p ∈ cs, p.2 = b
      · obtain ⟨p, hp, y⟩ := m
        obtain ⟨more, z⟩ := grown p hp
        subst y
        exact ⟨_, z⟩
      · exact ⟨o, same b o (fun p hp y => m ⟨p, hp, y⟩) e⟩
/-- the abstract heap of the tables alone -/
def HT (cs : List (Addr × Addr)) : Hp := fun b => if b ∈ cs.map (·.2) then some (.tbl #[]) else none
theorem HT.at_ {p : Addr × Addr} (h : p ∈ cs) : HT cs p.2 = some (.tbl #[]) := if_pos (List.mem_map.mpr ⟨p, h, rfl⟩)
theorem HT.some {b : Addr} {u : HO} (h : HT cs b = .some u) : (∃ p ∈ cs, p.2 = b) ∧ u = .tbl #[] := by
  unfold HT at h
  split at h
  · next m =>
    obtain ⟨p, hp, e⟩ := List.mem_map.mp m
    exact ⟨⟨p, hp, e⟩, (Option.some.inj h).symm⟩
  · cases h
theorem HT.none {b : Addr} (h : ∀ p ∈ cs, p.2 ≠ b) : HT cs b = .none := if_neg fun m => by
  obtain ⟨p, hp, e⟩ := List.mem_map.mp m
  exact h p hp e
theorem law_goesT (KX : K.In s.heap) (hns : s.heap.Ns mainGlobals mg) (hb : s.heap.Ns builtinsNs mb) (hbb : ∀ x : Str, x ≠ "__name__" → mb x = bootBuiltins x) (lim : s.heap.NoLimit) (hg : s.gens = #[])
    (hT : ∀ p ∈ cs, s.heap.get? p.2 = some tab0) (nT : ∀ p ∈ cs, K.lookup p.2 = none) (C : ∀ p ∈ cs, PySem.W.codeHdIn K p.1 p.2 = true)
    (hbm : ∃ (bm : Addr) (ob : Obj), mg "__builtins__" = some (.ref bm) ∧ bm ≠ builtinsNs ∧ s.heap.get? bm = some ob ∧ ob.cls = .type "module" ∧ ob.dict = some builtinsNs ∧ ob.data = .plain)
    (at_ : s.heap.get? a = some { cls := .type "list", data := .seq vs.toArray }) (hin : IntsAre vs ns) (hl : ns.length ≤ sizeLine) (hr : Room k callerA)
    (F : ∀ base : Heap, K.In base → base.Ns mainGlobals mg → (∀ p ∈ cs, LamX.TabB base mg p.1 p.2) → FnG P w K mg base CX0 k fa fd [x] sp) (bind : ∀ (s : Shared) (u : Value), BindsTo s fd ⟨[u], []⟩ [(x, u)])
    (hsp : ∀ H : Hp, (∀ p ∈ cs, H p.2 = some (.tbl #[])) → SqL K H a (ns.map V.int) → sp [.ref a] H (fun v _ => v = .bl true) fun _ _ _ => False) :
    codeAny (model P w) callerA (.call (.ref fa) ⟨[.ref a], []⟩) (fun r s' => r = .ok (.ret (.bool true)) ∧ OldK s.heap s'.heap ∧ s'.os = s.os ∧ AllBare s'.gens) s := by
  have rv := vals_ints hin
  have nA : ∀ p ∈ cs, p.2 ≠ a := fun p hp z => by
    have := hT p hp
    rw [z, at_] at this
    cases this
  have hA : HT cs a = none := HT.none nA
  cases e : K.lookup a with
  | some o =>
    have e2 := (KX a o e).symm.trans at_
    cases e2
    have sq : SqL K (HT cs) a (ns.map V.int) := .inr ⟨_, vs.toArray, _, e, rfl, rfl, rfl, by rw [List.size_toArray, hin.length]; exact hl, rv⟩
    refine law_fromT (H := HT cs) KX hns hb hbb lim hg hT nT C hbm at_ hr F bind (hsp _ (fun p hp => HT.at_ hp) sq) (fun b u q => ?_) (fun b q => ?_) (fun u q => ?_) (fun p hp => HT.at_ hp) fun q => absurd hA q
    · obtain ⟨⟨p, hp, rfl⟩, rfl⟩ := HT.some q
      exact hT p hp
    · cases z : HT cs b with
      | none => exact absurd z q
      | some u => exact .inr (HT.some z).1
    · rw [hA] at q
      cases q
  | none =>
    have one : ∀ {b u}, upd (HT cs) a (.frz { cls := .type "list", data := .seq vs.toArray } (.lst (ns.map V.int))) b = some u → (b = a ∧ u = .frz { cls := .type "list", data := .seq vs.toArray } (.lst (ns.map V.int))) ∨ ((∃ p ∈ cs, p.2 = b) ∧ u = .tbl #[]) := fun {b u} q => by
      by_cases z : b = a
      · rw [z, upd_same] at q
        exact .inl ⟨z, (Option.some.inj q).symm⟩
      · rw [upd_ne z] at q
        exact .inr (HT.some q)
    refine law_fromT (H := upd (HT cs) a (.frz { cls := .type "list", data := .seq vs.toArray } (.lst (ns.map V.int)))) KX hns hb hbb lim hg hT nT C hbm at_ hr F bind
      (hsp _ (fun p hp => by rw [upd_ne (nA p hp)]; exact HT.at_ hp) (.inl (.inr ⟨_, upd_same⟩))) (fun b u q => ?_) (fun b q => ?_) (fun u q => ?_) (fun p hp => by rw [upd_ne (nA p hp)]; exact HT.at_ hp) fun _ => e
    · rcases one q with ⟨rfl, rfl⟩ | ⟨⟨p, hp, rfl⟩, rfl⟩
      · exact ⟨at_, by rw [List.length_map]; exact hl, vs, _, rv, at_⟩
      · exact hT p hp
    · cases z : upd (HT cs) a (.frz { cls := .type "list", data := .seq vs.toArray } (.lst (ns.map V.int))) b with
      | none => exact absurd z q
      | some u =>
        rcases one z with ⟨h, _⟩ | ⟨h, _⟩
        · exact .inl h
        · exact .inr h
    · rw [upd_same] at q
      exact ⟨_, _, (Option.some.inj q).symm⟩
end
/-- the walk of a law that shows data and makes lambdas -/
theorem walk_GT {l : PySem.W.OpenLaw} {n k : Nat} {q : Program} {loose : List Str} {XP : (Str → Option Value) → Heap → Prop} {YP : World → Heap → Prop} {d : DefRec} {K : Params → PySem.W.Frag} {x : Str}
    (hn : l.most = some n) (small : n ≤ sizeLine) (hdf : d.params.defaults = []) (hr : Room k callerA) (hY : ∀ (w : World) (h : Heap), YP w h → (K w.params).In h)
    (F : ∀ (w : World) (mg : Str → Option Value) (fa : Addr) (h : Heap), YP w h → (K w.params).In h → h.Ns mainGlobals mg → mg d.name = some (.ref fa) →
      ∃ (fd : FuncData) (cs : List (Addr × Addr)) (sp : Sp), (∀ p ∈ cs, h.get? p.2 = some tab0) ∧ (∀ p ∈ cs, (K w.params).lookup p.2 = none) ∧ (∀ p ∈ cs, PySem.W.codeHdIn (K w.params) p.1 p.2 = true) ∧ (∀ (s : Shared) (u : Value), BindsTo s fd ⟨[u], []⟩ [(x, u)]) ∧
        (∀ (H : Hp) (a : Addr) (ns : List Int), ns.length ≤ n → (∀ p ∈ cs, H p.2 = some (.tbl #[])) → SqL (K w.params) H a (ns.map V.int) → sp [.ref a] H (fun v _ => v = .bl true) fun _ _ _ => False) ∧
        ∀ base : Heap, (K w.params).In base → base.Ns mainGlobals mg → (∀ p ∈ cs, LamX.TabB base mg p.1 p.2) → FnG l.prog w (K w.params) mg base CX0 k fa fd [x] sp) :
    PySem.W.WalkO q loose XP YP l.row.toRowW d [] (fun f vs => PySem.call f vs) := by
  refine Att.attach_call hn hdf fun w s₀ s₁ mg mb fa o pm cd doc a vs ns G Y _ _ _ hmg at_ hin hlen hg => ?_
  obtain ⟨fd, cs, sp, hT, nT, C, bind, hsp, go⟩ := F w mg fa _ Y (hY w _ Y) G.T.g hmg
  exact law_goesT (hY w _ Y) G.T.g G.T.b G.T.builtins G.T.nolimit hg hT nT C G.T.bmain at_ hin (Nat.le_trans hlen small) hr go bind fun H hH h => hsp H a ns hlen hH h
end Er

set_option Elab.async false
set_option linter.all false
set_option maxRecDepth 100000
set_option maxHeartbeats 2000000
/-! a def whose code object is known: it makes lambdas -/
namespace Er
open PySem PySem.Spec PyProof.Rows L2 Sx Ow
structure FunC (K : PySem.W.Frag) (x qual : Str) (st : Stmt) (f c : Addr) (fd : FuncData) : Prop where
  ex : ∃ (oc : Value) (od : Option Addr) (kV doc pm : Value) (an : Option Addr) (ct : Value) (osl : Array (Option Value)),
    fd = PySem.W.fnOf x qual (defArgs st) (defBody st) (defScope st) .none kV doc pm an (.ref c) ct ∧ K.lookup f = some ⟨oc, od, .func fd, osl⟩ ∧ PySem.W.codeIn K (.ref c) qual = true
section
variable {P : Program} {w : World} {K : PySem.W.Frag} {mg : Str → Option Value} {base : Heap} {k : Nat} {f c : Addr} {fd : FuncData} {ps N : List Str} {sp : Sp} {x qual : Str} {st : Stmt}
theorem funC_mk {oc : Value} {od an : Option Addr} {osl : Array (Option Value)} {kV doc pm cdv ct : Value} (l : K.lookup f = some ⟨oc, od, .func (PySem.W.fnOf x qual (defArgs st) (defBody st) (defScope st) .none kV doc pm an cdv ct), osl⟩)
    (h : PySem.W.codeIn K cdv qual = true) (e : cdv = .ref c) : FunC K x qual st f c (PySem.W.fnOf x qual (defArgs st) (defBody st) (defScope st) .none kV doc pm an cdv ct) := by
  subst e
  exact ⟨oc, od, kV, doc, pm, an, ct, osl, rfl, l, h⟩
theorem fn_atC {CX : CXT} (F : FunC K x qual st f c fd) (S : FnScope N ps (defScope st))
    {A : Around} {outer : List Env} {s : Shared} {H : Hp} {args : Args} {us : List Value} {vs : List V} {Q : VK} {E : XK} (hl : vs.length = ps.length) (hr : Room (k + 1) A) (e0 : Env0 P w K mg base A outer s H) (hb : BindsTo s fd args (ps.zip us)) (r : Vals vs us)
    (hbody : ∃ t, PSs (cxOf CX P w K mg base N qual (defScope st) f (.ref c) A outer s H E) (defBody st) t ∧ t { nx := fun _ H' => Q .non H', rt := Q } (L2.start N vs) H) :
    codeAny (model P w) A (.call (.ref f) args) (CR CX outer P w H s Q E) s := by
  obtain ⟨oc, od, kV, doc, pm, an, ct, osl, rfl, lk, hcd⟩ := F.ex
  exact LamX.run_ofS lk hcd S hr e0 hb r hl fun _ => hbody
/-- such a def by its body (it shows data: no repr is under way) -/
theorem fnG_ofC (F : FunC K x qual st f c fd) (S : FnScope N ps (defScope st)) (same : ∀ vs H Q E, sp vs H Q E → vs.length = ps.length)
    (body : ∀ (A : Around) (outer : List Env) (s : Shared) (H : Hp) (vs : List V) (Q : VK) (E : XK), A.guards = some [] → Room k (A.deeper (envOfC qual (defScope st) s.heap.objs.size f (.ref c))) → sp vs H Q E →
      ∃ t, PSs (cxOf CX0 P w K mg base N qual (defScope st) f (.ref c) A outer s H E).nox (defBody st) t ∧ t { nx := fun _ H' => Q .non H', rt := Q } (start N vs) H) : FnG P w K mg base CX0 (k + 1) f fd ps sp :=
  ⟨same, fun A outer s H args us vs Q E hg hr e0 hb r h => fn_atC F S (same _ _ _ _ h) hr e0 hb r (by
    obtain ⟨t, p, q⟩ := body A outer s H vs Q E hg (hr.deeper _) h
    exact ⟨t, p.nox, q⟩)⟩
end
end Er

set_option Elab.async false
set_option linter.all false
set_option maxRecDepth 100000
set_option maxHeartbeats 2000000
/-! a dict is no tuple and no list; range(a, b); enumerate; continue; errors of two fields -/
namespace PySem.SeqAt
open AutoSeq1 (wpAny_loadPart')
open MeetsSeq
theorem tuple_eq_declines_dict (l b : Addr) (items : Array Value) (es : Array DictEntry) (n n2 : Nat) (dd dd2 : Option Addr) (sl sl2 : Array (Option Value)) :
    Meets (Builtin.«tuple.__eq__» ⟨[.ref l, .ref b], []⟩) (fun _ R s => s.heap.get? l = some { cls := .type "tuple", dict := dd, data := .seq items n, slots := sl } ∧ s.heap.get? b = some { cls := .type "dict", dict := dd2, data := .dict es n2, slots := sl2 } ∧ R (.ok (.ret .notImplemented)) s) :=
  .of_wp fun prog w A R s h => by obtain ⟨hp, g, d, tk, os⟩ := s; obtain ⟨hl, hb, h⟩ := h; have f1 := F.sub_dict_tuple; wp_walk using wpAny_loadPart' hl, wpAny_loadPart' hb; exact ⟨_, rfl, h⟩
theorem list_eq_declines_dict (l b : Addr) (items : Array Value) (es : Array DictEntry) (n n2 : Nat) (dd dd2 : Option Addr) (sl sl2 : Array (Option Value)) :
    Meets (Builtin.«list.__eq__» ⟨[.ref l, .ref b], []⟩) (fun _ R s => s.heap.get? l = some { cls := .type "list", dict := dd, data := .seq items n, slots := sl } ∧ s.heap.get? b = some { cls := .type "dict", dict := dd2, data := .dict es n2, slots := sl2 } ∧ R (.ok (.ret .notImplemented)) s) :=
  .of_wp fun prog w A R s h => by obtain ⟨hp, g, d, tk, os⟩ := s; obtain ⟨hl, hb, h⟩ := h; have f1 := F.sub_dict_list; wp_walk using wpAny_loadPart' hl, wpAny_loadPart' hb; exact ⟨_, rfl, h⟩
end PySem.SeqAt
namespace Er
open PySem PySem.Spec PyProof.Rows L2 Sx
section
variable {prog : Program} {w : World} {A : Around} {E : Value → Shared → Prop} {s : Shared} {a b : Addr} {items : Array Value}
/-- dict.__eq__(d, what is no dict) -/
theorem dict_eq_no {Kt : Type} [DecidableEq Kt] {knd : KeyKind prog w Kt} {ka : List (Kt × Value)} {T : String} (da : s.heap.DictOf knd a ka) (hb : s.TypeIs (.ref b) T) (hs : isSubtype (.type T) (.type "dict") = pure false) {Q : Value → Shared → Prop} (h : Q .notImplemented s) :
    wpAny (model prog w) A (call (.builtin "dict.__eq__") [.ref a, .ref b]) Q E s := by
  refine wpAny_call_entry PySem.F.slot_dict_eq da.typeIs PySem.F.entry_dict_eq ?_ (PySem.F.args_dict_eq_2 _ _)
  show wpAny _ _ (Builtin.Dict.dictSlotArgs "__eq__" ⟨[.ref a, .ref b], []⟩ >>= _) _ _ s
  refine wpAny_bind ?_
  unfold Builtin.Dict.dictSlotArgs
  refine wpAny_bind (wpAny_notOrdered_dict da.typeIs ?_)
  show wpAny _ _ (pure (Value.ref a, Value.ref b)) _ _ s
  refine wpAny_pure ?_
  refine wpAny_bind (wpAny_isInstance (b := false) hb hs ?_)
  simp only [Bool.not_false, if_true]
  exact wpAny_bind (wpAny_rule (wpAny_pure ⟨_, rfl, h⟩))
end
section
variable {X : Cx}
/-- a dict and a tuple or list are never equal -/
def rEqDf (K : PySem.W.Frag) : R2 := fun x y H Q => ∃ a b kvs, x = .ref a ∧ y = .ref b ∧ H a = some (.dK kvs) ∧ ((∃ xs, SqT K H b xs) ∨ ∃ xs, SqL K H b xs) ∧ Q (.bl false) H
theorem op_eqDf (hu : X.A.units + 64 < cLine) : OpR X (compareOp .Eq) (rEqDf X.K) := by
  intro pins s σ H x y v u Q I rx ry h
  obtain ⟨a, b, kvs, rfl, rfl, ea, hb, q⟩ := h
  cases rx
  cases ry
  obtain ⟨_, ya, va, ra, da⟩ := (show ObjOk X.prog X.w H s.heap a (.dK kvs) from I.hok a _ ea)
  have hu' : X.A.units < cLine := by omega
  obtain ⟨oa, es, ep, ha, xa, dA, _⟩ := id da
  have hcls : oa.cls = .type "dict" := xa.1
  obtain ⟨ca, dda, dta, sla⟩ := oa
  simp only at hcls dA
  subst hcls dA
  show wpAny _ _ (richCompare .Eq _ _) _ _ _
  rcases hb with ⟨xs, hb⟩ | ⟨xs, hb⟩
  · obtain ⟨its, rv, p, _⟩ := I.tuple hb
    have p' : s.heap.IsTuple b its.toArray := p
    obtain ⟨⟨cls2, dd2, data2, sl2⟩, ho2, hc2, n2, hd2⟩ := id p'
    simp only at hc2 hd2
    subst hc2 hd2
    have hne : a ≠ b := fun e => by subst e; have := congrArg Obj.cls (Option.some.inj (ha.symm.trans ho2)); simp at this
    exact PySem.SeqAt.rc_eq_decline_or (k := false) da.typeIs ⟨_, ho2, rfl⟩ (by decide) F.sub_tuple_dict F.slot_dict_eq F.slot_tuple_eq_refl
      (fun _ hq => dict_eq_no da ⟨_, ho2, rfl⟩ F.sub_tuple_dict hq)
      (fun _ hq => PySem.call_meets F.slot_tuple_eq_refl ⟨_, ho2, rfl⟩ F.entry_tuple_eq (F.args_tuple_eq_2 _ _) (PySem.SeqAt.tuple_eq_declines_dict b a _ _ _ _ _ _ _ _) ⟨ho2, ha, hq⟩)
      (fun _ hq => wpAny_isSame_ref_other hne ha ho2 (by simp) hq) (.inr hu') ⟨.bl false, H, I, rfl, q⟩
  · obtain ⟨its, rv, p, _⟩ := I.list hb
    have p' := p.isList
    obtain ⟨⟨cls2, dd2, data2, sl2⟩, ho2, hc2, n2, hd2⟩ := id p'
    simp only at hc2 hd2
    subst hc2 hd2
    have hne : a ≠ b := fun e => by subst e; have := congrArg Obj.cls (Option.some.inj (ha.symm.trans ho2)); simp at this
    exact PySem.SeqAt.rc_eq_decline_or (k := false) da.typeIs ⟨_, ho2, rfl⟩ (by decide) F.sub_list_dict F.slot_dict_eq F.slot_list_eq_refl
      (fun _ hq => dict_eq_no da ⟨_, ho2, rfl⟩ F.sub_list_dict hq)
      (fun _ hq => PySem.call_meets F.slot_list_eq_refl ⟨_, ho2, rfl⟩ F.entry_list_eq (F.args_list_eq_2 _ _) (PySem.SeqAt.list_eq_declines_dict b a _ _ _ _ _ _ _ _) ⟨ho2, ha, hq⟩)
      (fun _ hq => wpAny_isSame_ref_other hne ha ho2 (by simp) hq) (.inr hu') ⟨.bl false, H, I, rfl, q⟩
def rEqW (K : PySem.W.Frag) : R2 := fun x y H Q => rEqAny K x y H Q ∨ rEqDf K x y H Q
theorem op_eqW (hu : X.A.units + 64 < cLine) : OpR X (compareOp .Eq) (rEqW X.K) := by
  intro pins s σ H x y v u Q I rx ry h
  rcases h with h | h
  · exact op_eqAny hu pins s σ H x y v u Q I rx ry h
  · exact op_eqDf hu pins s σ H x y v u Q I rx ry h
end
/-! range(a, b), enumerate, continue -/
section
variable {H H' H1 H2 : Hp} {p a b c l : Addr} {o u : HO} {K : PySem.W.Frag} {σ : L2.St} {Q : VK} {v w : V} {D : Ends} {t : TT} {ta tb te : TE}
def R2K (xs : List V) (H1 : Hp) (R : It → Hp → Prop) : Prop := ∃ i j : Int, xs = [.int i, .int j] ∧ (-(2 ^ 62) ≤ i ∧ i < 2 ^ 62 ∧ -(2 ^ 62) ≤ j ∧ j < 2 ^ 62) ∧ R (Itr i (j - i).toNat) H1
theorem x_iR2 {a : TA} {R : It → Hp → Prop} (k : a σ H fun xs H1 => R2K xs H1 R) : iRng2 a σ H R := k
theorem lc_rng2 {lo m : Int} {j : Nat} {vs : List Nat} (hm : m < 2 ^ 62) (hm0 : -(2 ^ 62) ≤ m) (hl : lo < 2 ^ 62) (hl0 : -(2 ^ 62) ≤ lo) (I : Nat → List V → Hp → Prop) (h0 : I 0 [] H1) (mono : ∀ i acc H H', Tx H H' → I i acc H → I i acc H') (nb : ∀ i acc H, I i acc H → NB (.lst acc) ∧ acc.length < sizeLine)
    (hw : ∀ x, wipe ((wipe σ vs).set j (some x)) vs = wipe σ vs)
    (turn : ∀ (i : Nat) acc H', lo + (i : Int) < m → Ex H1 H' → I i acc H' → ∀ kk : Option V → Hp → Prop, (∀ y H4, Ex H' H4 → I (i + 1) (acc ++ [y]) H4 → kk (some y) H4) → (∀ H4, Ex H' H4 → I (i + 1) acc H4 → kk none H4) →
      t ((wipe σ vs).set j (some (.int (lo + (i : Int))))) H' fun b H3 => if b = true then te ((wipe σ vs).set j (some (.int (lo + (i : Int))))) H3 (fun y H4 => kk (some y) H4) else kk none H3)
    (k : ∀ p ys H2, Ex H1 H2 → H1 p = none → H2 p = some (.lst ys) → I (m - lo).toNat ys H2 → Q (.ref p) H2) : R2K [.int lo, .int m] H1 fun J H2 => LcGo J (gName j) t te vs σ H2 Q := by
  refine ⟨lo, m, rfl, ⟨hl0, hl, hm0, hm⟩, lc_any I h0 mono nb (fun i H' hi _ => hi) (fun H' _ => Nat.le_refl _) (fun i acc x H' H'' hi e q y kk k1 k2 => ?_) k⟩
  obtain ⟨rfl, rfl⟩ := y
  exact ⟨hw _, turn i acc _ (by omega) e q kk k1 k2⟩
theorem for_rng2 {lo m : Int} {j : Nat} {tb : TS} (hm : m < 2 ^ 62) (hm0 : -(2 ^ 62) ≤ m) (hl : lo < 2 ^ 62) (hl0 : -(2 ^ 62) ≤ lo) (Pv : Nat → L2.St → Hp → Prop) (h0 : Pv 0 σ H1)
    (hs : ∀ (i : Nat) σ H, lo + (i : Int) < m → Pv i σ H → tb { D with nx := Pv (i + 1), ct := Pv (i + 1), bk := D.nx } (σ.set j (some (.int (lo + (i : Int))))) H) (hd : ∀ σ H, Pv (m - lo).toNat σ H → D.nx σ H) : R2K [.int lo, .int m] H1 fun J H2 => ForGo J (gName j) tb D σ H2 :=
  ⟨lo, m, rfl, ⟨hl0, hl, hm0, hm⟩, for_range Pv h0 (fun i σ H hi q => hs i σ H (by omega) q) hd⟩
def EnK (K : PySem.W.Frag) (vs : List V) (H1 : Hp) (R : It → Hp → Prop) : Prop := ∃ a xs, vs = [.ref a] ∧ SqL K H1 a xs ∧ R (Ite K a) H1
theorem x_iEn {a : TA} {R : It → Hp → Prop} (k : a σ H fun xs H1 => EnK K xs H1 R) : iEnum K a σ H R := k
theorem lc_en {xs : List V} {j1 j2 : Nat} {vs : List Nat} (hx : H1 a = some (.lst xs)) (nbx : NB (.lst xs)) (I : Nat → List V → Hp → Prop) (h0 : I 0 [] H1) (mono : ∀ i acc H H', Tx H H' → I i acc H → I i acc H') (nb : ∀ i acc H, I i acc H → NB (.lst acc) ∧ acc.length < sizeLine)
    (hw : ∀ x y, wipe (((wipe σ vs).set j1 (some x)).set j2 (some y)) vs = wipe σ vs)
    (turn : ∀ (i : Nat) y acc H', xs[i]? = some y → Ex H1 H' → I i acc H' → ∀ kk : Option V → Hp → Prop, (∀ y H4, Ex H' H4 → I (i + 1) (acc ++ [y]) H4 → kk (some y) H4) → (∀ H4, Ex H' H4 → I (i + 1) acc H4 → kk none H4) →
      t (((wipe σ vs).set j1 (some (.int (i : Nat)))).set j2 (some y)) H' fun b H3 => if b = true then te (((wipe σ vs).set j1 (some (.int (i : Nat)))).set j2 (some y)) H3 (fun y H4 => kk (some y) H4) else kk none H3)
    (k : ∀ p ys H2, Ex H1 H2 → H1 p = none → H2 p = some (.lst ys) → I xs.length ys H2 → Q (.ref p) H2) : EnK K [.ref a] H1 fun J H2 => LcGo J (gTup K 2 (gCons (gName j1) (gCons (gName j2) gNil))) t te vs σ H2 Q := by
  have hq : ∀ H', Ex H1 H' → SqL K H' a xs := fun H' e => SqL.of (e.kp _ _ hx nbx)
  refine ⟨a, xs, rfl, SqL.of hx, lc_any (n := xs.length) I h0 mono nb (fun i H' hi e => ⟨xs, xs[i], hq H' e, by simp [hi]⟩) (fun H' e => ⟨xs, hq H' e, Nat.le_refl _⟩) (fun i acc v H' H'' hi e q y kk k1 k2 => ?_) k⟩
  obtain ⟨T, y, rfl, hT, rfl, hy⟩ := y
  have e2 : Ex H' (upd H' T (.tup [.int (i : Nat), y])) := Ex.new hT
  refine ⟨T, _, rfl, SqT.of upd_same, rfl, _, _, rfl, _, _, rfl, rfl, hw _ _, ?_⟩
  exact turn i y acc _ (hy xs (hq _ e)) (e.trans e2) (mono _ _ _ _ e2.tx q) kk (fun y H4 f g => k1 y H4 (e2.trans f) g) (fun H4 f g => k2 H4 (e2.trans f) g)
theorem x_cont (k : D.ct σ H) : tCont D σ H := k
end
/-! errors of two fields -/
section
variable {K : PySem.W.Frag} {σ : L2.St} {H H1 H2 : Hp} {Q : VK} {E : XK} {C a p : Addr} {f g : Str} {v y z : V} {D : Ends} {te : TE}
def sp_init2 (C : Addr) (f g : Str) : Sp := fun vs H Q _ => ∃ (a : Addr) (y z : V), vs = [.ref a, y, z] ∧ H a = some (exo a C none) ∧
  ∀ dx, H dx = none → dx ≠ a → Q .non (upd (upd H dx (exd dx [(g, z), (f, y)])) a (exo a C (some dx)))
theorem x_ost {to : TE} (k : te σ H fun y H1 => to σ H1 fun x H2 => ∃ a C : Addr, x = .ref a ∧ OexC K C ∧ PySem.W.findIn K (.ref C) f = some none ∧
  ((H2 a = some (exo a C none) ∧ ∀ dx, H2 dx = none → dx ≠ a → D.nx σ (upd (upd H2 dx (exd dx [(f, y)])) a (exo a C (some dx)))) ∨
    ∃ (dx : Addr) (fs : List (Str × V)), H2 a = some (exo a C (some dx)) ∧ H2 dx = some (exd dx fs) ∧ fs.length ≤ 900 ∧ D.nx σ (upd H2 dx (exd dx ((f, y) :: fs))))) : tOst K f to te D σ H := k
theorem x_init2 (T : XC K C) (hf : PySem.W.findIn K (.ref C) f = some none) (hg : PySem.W.findIn K (.ref C) g = some none) (ha : H a = some (exo a C none))
    (h0 : σ[0]? = some (some (.ref a))) (h1 : σ[1]? = some (some y)) (h2 : σ[2]? = some (some z)) (k : ∀ dx, H dx = none → dx ≠ a → D.nx σ (upd (upd H dx (exd dx [(g, z), (f, y)])) a (exo a C (some dx)))) :
    tSeq (tOst K f (tVar 0) (tVar 1)) (tOst K g (tVar 0) (tVar 2)) D σ H := by
  refine ⟨y, h1, .ref a, h0, a, C, rfl, T.oex, hf, .inl ⟨ha, fun dx hdx ne => ?_⟩⟩
  refine ⟨z, h2, .ref a, h0, a, C, rfl, T.oex, hg, .inr ⟨dx, [(f, y)], upd_same, by rw [upd_ne ne]; exact upd_same, Nat.le_of_ble_eq_true rfl, ?_⟩⟩
  have e : upd (upd (upd H dx (exd dx [(f, y)])) a (exo a C (some dx))) dx (exd dx [(g, z), (f, y)]) = upd (upd H dx (exd dx [(g, z), (f, y)])) a (exo a C (some dx)) := by
    funext b
    by_cases h1 : b = dx
    · rw [h1, upd_same, upd_ne ne, upd_same]
    · rw [upd_ne h1]
      by_cases h2 : b = a
      · rw [h2, upd_same, upd_same]
      · rw [upd_ne h2, upd_ne h2, upd_ne h1, upd_ne h1]
  show D.nx σ (upd (upd (upd H dx (exd dx [(f, y)])) a (exo a C (some dx))) dx (exd dx [(g, z), (f, y)]))
  rw [e]
  exact k dx hdx ne
theorem x_mk2 {Q : XK} (k : ∀ d H2, Ex H H2 → H d = none → H2 d = some (.xd [(g, z), (f, y)]) → Q (.ref C) (some d) H2) : MkK C (sp_init2 C f g) [y, z] H Q := by
  refine ⟨by show 2 ≤ 1000; decide, ?_⟩
  intro a ha
  refine ⟨a, y, z, rfl, upd_same, ?_⟩
  intro dx hx ne
  have hn : H dx = none := by rw [upd_ne ne] at hx; exact hx
  refine ⟨rfl, dx, [(g, z), (f, y)], upd_same, by rw [upd_ne ne]; exact upd_same, hn, ?_⟩
  have same : upd (del (upd (upd (upd H a (exo a C none)) dx (exd dx [(g, z), (f, y)])) a (exo a C (some dx))) a) dx (.xd [(g, z), (f, y)]) = upd H dx (.xd [(g, z), (f, y)]) := by
    funext b
    by_cases h1 : b = dx
    · rw [h1, upd_same, upd_same]
    · rw [upd_ne h1, upd_ne h1]
      by_cases h2 : b = a
      · rw [h2, del_same, ha]
      · rw [del_ne h2, upd_ne h2, upd_ne h1, upd_ne h2]
  rw [same]
  exact k dx _ (Ex.new hn) hn upd_same
/-- e.f, of some fields -/
theorem x_xgs {dd : Addr} {fs : List (Str × V)} {i : Nat} (hx : σ[i]? = some (some (.ref a))) (T : XC K C) (hno : PySem.W.findIn K (.ref C) f = some none) (hd : H dd = some (.xd fs)) (hl : fs.lookup f = some y) (k : Q y H) : tXg K a (.ref C) (some dd) f (tVar i) σ H Q :=
  ⟨.ref a, hx, rfl, C, dd, fs, y, rfl, T, hno, rfl, hd, hl, k⟩
end
/-! is True, is False, of truths -/
def rIsB : R2 := fun x y H Q => ∃ a b, x = .bl a ∧ y = .bl b ∧ Q (.bl (decide (a = b))) H
def rIsNB : R2 := fun x y H Q => ∃ a b, x = .bl a ∧ y = .bl b ∧ Q (.bl (!decide (a = b))) H
theorem op_isB {X : Cx} : OpR X (compareOp .Is) rIsB := by
  intro pins s σ H x y v u Q I rx ry h
  obtain ⟨a, b, rfl, rfl, q⟩ := h
  cases rx
  cases ry
  exact wpAny_is_plain rfl (fin_bl I q (by cases a <;> cases b <;> rfl))
theorem op_isNB {X : Cx} : OpR X (compareOp .IsNot) rIsNB := by
  intro pins s σ H x y v u Q I rx ry h
  obtain ⟨a, b, rfl, rfl, q⟩ := h
  cases rx
  cases ry
  exact wpAny_isNot_plain rfl (fin_bl I q (by cases a <;> cases b <;> rfl))
theorem x_isB {a b : Bool} {H : Hp} {Q : VK} (k : Q (.bl (decide (a = b))) H) : rIsB (.bl a) (.bl b) H Q := ⟨a, b, rfl, rfl, k⟩
theorem x_isNB {a b : Bool} {H : Hp} {Q : VK} (k : Q (.bl (!decide (a = b))) H) : rIsNB (.bl a) (.bl b) H Q := ⟨a, b, rfl, rfl, k⟩
theorem x_isBt {a b : Bool} {H : Hp} {Q : VK} (h : a = b) (k : Q (.bl true) H) : rIsB (.bl a) (.bl b) H Q := x_isB (by rw [h, decide_eq_true rfl]; exact k)
theorem x_isBf {a b : Bool} {H : Hp} {Q : VK} (h : a = !b) (k : Q (.bl false) H) : rIsB (.bl a) (.bl b) H Q := x_isB (by rw [h, show decide ((!b) = b) = false from by cases b <;> rfl]; exact k)
theorem x_isNBf {a b : Bool} {H : Hp} {Q : VK} (h : a = b) (k : Q (.bl false) H) : rIsNB (.bl a) (.bl b) H Q := x_isNB (by rw [h, decide_eq_true rfl]; exact k)
theorem x_isNBt {a b : Bool} {H : Hp} {Q : VK} (h : a = !b) (k : Q (.bl true) H) : rIsNB (.bl a) (.bl b) H Q := x_isNB (by rw [h, show decide ((!b) = b) = false from by cases b <;> rfl]; exact k)
theorem x_EqBt {a : Bool} {H : Hp} {Q : VK} (k : Q (.bl true) H) : rEq (.bl a) (.bl a) H Q := ⟨rfl, by simp; exact k⟩
theorem x_EqB {a b : Bool} {H : Hp} {Q : VK} (k : Q (.bl (decide (a = b))) H) : rEq (.bl a) (.bl b) H Q := ⟨rfl, by
  rw [show decide ((V.bl a) = .bl b) = decide (a = b) from decide_eq_decide.mpr ⟨fun h => V.bl.inj h, fun h => by rw [h]⟩]; exact k⟩
/-! fresh: no object that stays was there -/
section
variable {H H1 H2 : Hp} {l p : Addr} {o : HO}
def NF (H : Hp) (p : Addr) : Prop := ∀ o, NB o → H p ≠ some o
theorem NF.of (h : H p = none) : NF H p := fun o _ q => by rw [h] at q; cases q
theorem NF.back (e : Ex H H1) (h : NF H1 p) : NF H p := fun o n q => h o n (e.kp _ _ q n)
theorem NF.new (e : Ex H H1) (h : H1 p = none) : NF H p := .back e (.of h)
theorem mutN {xs : List V} (e : Ex H H1) (n : NF H l) (h : H1 l = some (.lst xs)) (nb : NB (.lst xs)) : Ex H (upd H1 l o) := by
  refine ⟨fun a o' q nn => ?_, fun b c q => ?_⟩
  · have hne : a ≠ l := fun ea => n o' nn (ea ▸ q)
    rw [upd_ne hne]
    exact e.kp a o' q nn
  · obtain ⟨x0, y0, z0, ns0, k1, k2, _⟩ := id q
    obtain ⟨x, y, z, ns, e1, e2, r⟩ := e.bg b c q
    have hb : b ≠ l := fun ea => by
      subst ea
      rw [h] at e1
      injection e1 with e1
      exact nb x y z c e1
    have hc : c ≠ l := fun ea => n _ NB.ints (ea ▸ k2)
    exact ⟨x, y, z, ns, by rw [upd_ne hb]; exact e1, by rw [upd_ne hc]; exact e2, r⟩
end
end Er

set_option Elab.async false
set_option linter.all false
set_option maxRecDepth 100000
set_option maxHeartbeats 2000000
/-! data without truths: what equals it and shows as it does is it -/
namespace Er
open PySem PySem.Spec PyProof.Rows L2 Sx
mutual
/-- no truth, no dict within -/
def noB : PyData → Bool
  | .bool _ => false
  | .dict _ => false
  | .list xs => noBs xs
  | .tuple xs => noBs xs
  | _ => true
def noBs : List PyData → Bool
  | [] => true
  | x :: xs => noB x && noBs xs
end
/-- how many e its text has -/
def es (d : PyData) : Int := cnt 101 d.shown.cps.toList
def ess : List PyData → Int
  | [] => 0
  | x :: xs => es x + ess xs
theorem ess_eq : ∀ xs : List PyData, ess xs = ((PyData.shownAll xs).map fun t => cnt 101 t.cps.toList).sum
  | [] => rfl
  | x :: xs => by
    rw [PyData.shownAll_cons, List.map_cons, List.sum_cons, ← ess_eq xs]
    rfl
theorem es_list (xs : List PyData) : es (.list xs) = ess xs := by
  unfold es
  rw [PyData.shown_list, cps_toList_append, cps_toList_append, cnt_append, cnt_append, cnt_join_sum, ess_eq]
  have h1 : cnt 101 (Str.ofString "[").cps.toList = 0 := by decide +kernel
  have h2 : cnt 101 (Str.ofString ", ").cps.toList = 0 := by decide +kernel
  have h3 : cnt 101 (Str.ofString "]").cps.toList = 0 := by decide +kernel
  rw [h1, h2, h3]
  simp
theorem es_tuple (xs : List PyData) : es (.tuple xs) = ess xs := by
  unfold es
  rw [PyData.shown_tuple, cps_toList_append, cps_toList_append, cnt_append, cnt_append, cnt_join_sum, ess_eq]
  have h1 : cnt 101 (Str.ofString "(").cps.toList = 0 := by decide +kernel
  have h2 : cnt 101 (Str.ofString ", ").cps.toList = 0 := by decide +kernel
  have h3 : cnt 101 (Str.ofString (if (xs.length == 1) = true then ",)" else ")")).cps.toList = 0 := by split <;> decide +kernel
  rw [h1, h2, h3]
  simp
theorem es_int (i : Int) : es (.int i) = 0 := by
  unfold es
  exact cnt_none _ _ (shown_int_free' ⟨by decide, by decide⟩ i)
theorem es_bool (b : Bool) : es (.bool b) = 1 := by
  unfold es
  rw [PyData.shown_bool]
  cases b
  · show cnt 101 (Str.ofString "False").cps.toList = 1; decide +kernel
  · show cnt 101 (Str.ofString "True").cps.toList = 1; decide +kernel
mutual
theorem sim : ∀ (e d : PyData), noB e = true → PyData.eqv d e = true → d = e ∨ es e < es d
  | .none, d, _, h => by cases d <;> simp [PyData.eqv] at h ⊢
  | .bool _, _, z, _ => by simp [noB] at z
  | .dict _, _, z, _ => by simp [noB] at z
  | .str x, d, _, h => by cases d <;> simp [PyData.eqv] at h ⊢; exact .inl h
  | .int i, d, _, h => by
    cases d with
    | int j => left; simp [PyData.eqv] at h; rw [h]
    | bool b => right; rw [es_int, es_bool]; decide
    | _ => simp [PyData.eqv] at h
  | .list ys, d, z, h => by
    cases d with
    | list xs =>
      rw [es_list, es_list]
      rcases sims ys xs (by simpa [noB] using z) (by simpa [PyData.eqv] using h) with q | q
      · left; rw [q]
      · exact .inr q
    | _ => simp [PyData.eqv] at h
  | .tuple ys, d, z, h => by
    cases d with
    | tuple xs =>
      rw [es_tuple, es_tuple]
      rcases sims ys xs (by simpa [noB] using z) (by simpa [PyData.eqv] using h) with q | q
      · left; rw [q]
      · exact .inr q
    | _ => simp [PyData.eqv] at h
theorem sims : ∀ (ys xs : List PyData), noBs ys = true → PyData.eqvAll xs ys = true → xs = ys ∨ ess ys < ess xs
  | [], xs, _, h => by cases xs <;> simp [PyData.eqvAll] at h ⊢
  | y :: ys, xs, z, h => by
    cases xs with
    | nil => simp [PyData.eqvAll] at h
    | cons x xs =>
      simp only [noBs, Bool.and_eq_true] at z
      simp only [PyData.eqvAll, Bool.and_eq_true] at h
      show _ ∨ es y + ess ys < es x + ess xs
      rcases sim y x z.1 h.1 with q | q <;> rcases sims ys xs z.2 h.2 with r | r
      · left; rw [q, r]
      · right; rw [q]; omega
      · right; rw [r]; omega
      · right; omega
end
/-- equal to e and shown as e is: e itself -/
theorem is_it {d e : PyData} (h : noB e = true) (q : PyData.eqv d e = true) (s : d.shown = e.shown) : d = e := by
  rcases sim e d h q with z | z
  · exact z
  · unfold es at z
    rw [s] at z
    omega
/-- v and u are alike: r tells -/
structure AlB (K : PySem.W.Frag) (H : Hp) (v u : V) (r : Bool) : Prop where
  ex : ∃ c : Bool, (∀ H1 Q, Ex H H1 → Q (.bl c) H1 → rEqW K v u H1 Q) ∧ (c = false → r = false) ∧
    (c = true → ∃ z1 z2, (∀ H1 Q, Ex H H1 → Q (.str z1) H1 → rReprY K [v] H1 Q) ∧ (∀ H1 Q, Ex H H1 → Q (.str z2) H1 → rReprY K [u] H1 Q) ∧ r = decide (z1 = z2))
section
variable {K : PySem.W.Frag} {H H1 : Hp} {v u : V} {a b : Addr}
theorem AlB.mono {r : Bool} (h : AlB K H v u r) (e : Ex H H1) : AlB K H1 v u r := by
  obtain ⟨c, h1, h2, h3⟩ := h.ex
  refine ⟨c, fun H2 Q f => h1 H2 Q (e.trans f), h2, fun z => ?_⟩
  obtain ⟨z1, z2, k1, k2, k3⟩ := h3 z
  exact ⟨z1, z2, fun H2 Q f => k1 H2 Q (e.trans f), fun H2 Q f => k2 H2 Q (e.trans f), k3⟩
theorem Alike.alB (h : Alike K H v u) : AlB K H v u true := by
  obtain ⟨a, z, b, c⟩ := h
  exact ⟨true, fun H1 Q f q => .inl (a H1 Q f q), (fun z => nomatch z), fun _ => ⟨z, z, b, c, by simp⟩⟩
theorem shaped_sml {b e : Nat} {d : PyData} (s : Sml b e d) (he : e ≤ 40) : SeqAt.shaped d = true := by
  unfold SeqAt.shaped
  rw [s.lay]
  have := s.deep
  simp
  omega
/-- data against data -/
theorem AlB.data {d e : PyData} {b1 e1 b2 e2 : Nat} (hd : DN H d v) (he : DN H e u) (sd : Sml b1 e1 d) (se : Sml b2 e2 e) (hb1 : b1 ≤ 100000) (he1 : e1 ≤ 40) (hb2 : b2 ≤ 100000) (he2 : e2 ≤ 40) (n : noB e = true) {r : Bool} (hr : r = true ↔ d = e) : AlB K H v u r := by
  refine ⟨PyData.eqv d e, fun H1 Q f q => ?_, fun z => ?_, fun z => ?_⟩
  · exact .inl (.inr (.inl ⟨d, e, DN.dp _ _ (DN.mono f _ _ hd), DN.dp _ _ (DN.mono f _ _ he), shaped_sml sd he1, shaped_sml se he2, q⟩))
  · cases r with
    | false => rfl
    | true =>
      have := hr.mp rfl
      subst this
      rw [SeqAt.eqv_refl d sd.lay] at z
      cases z
  · refine ⟨_, _, shows hd sd hb1 he1, shows he se hb2 he2, ?_⟩
    by_cases q : d = e
    · rw [hr.mpr q, q]; simp
    · have : ¬ d.shown = e.shown := fun s => q (is_it n z s)
      rw [decide_eq_false this]
      cases r with
      | false => rfl
      | true => exact absurd (hr.mp rfl) q
/-- a dict against a tuple or a list -/
theorem AlB.dict {kvs : List (Key × V)} (ha : H a = some (.dK kvs)) (hb : (∃ xs, H b = some (.tup xs)) ∨ ∃ xs, H b = some (.lst xs) ∧ NB (.lst xs)) : AlB K H (.ref a) (.ref b) false := by
  refine ⟨false, fun H1 Q f q => ?_, fun _ => rfl, (fun z => nomatch z)⟩
  refine .inr ⟨a, b, kvs, rfl, rfl, f.kp _ _ ha NB.dK, ?_, q⟩
  rcases hb with ⟨xs, h⟩ | ⟨xs, h, n⟩
  · exact .inl ⟨xs, SqT.of (f.kp _ _ h NB.tup)⟩
  · exact .inr ⟨xs, SqL.of (f.kp _ _ h n)⟩
end
section
variable {K : PySem.W.Frag} {H H1 : Hp} {v u : V} {p a b : Addr}
theorem dn_thing : ∀ {d : PyData} {v : V}, DN H d v → Thing K H v
  | .none, _, h => by rw [DN] at h; rw [h]; exact .non
  | .bool b, _, h => by rw [DN] at h; rw [h]; exact .bl b
  | .int i, _, h => by rw [DN] at h; rw [h]; exact .int i
  | .str z, _, h => by rw [DN] at h; rw [h]; exact .str z
  | .list ds, _, h => by
    rw [DN] at h
    obtain ⟨a, xs, rfl, ha, nb, _⟩ := h
    exact .lst ha nb
  | .tuple ds, _, h => by
    rw [DN] at h
    obtain ⟨a, xs, rfl, ha, _⟩ := h
    exact .tup ha
  | .dict _, _, h => by rw [DN] at h; exact h.elim
/-- a tuple as data -/
theorem dn_tup {d : PyData} {xs : List V} (h : DN H d (.ref p)) (hp : H p = some (.tup xs)) : ∃ ds, d = .tuple ds ∧ DNs H ds xs := by
  cases d with
  | tuple ds =>
    rw [DN] at h
    obtain ⟨a, ys, e, ha, hd⟩ := h
    cases e
    rw [hp] at ha
    cases ha
    exact ⟨ds, rfl, hd⟩
  | list ds =>
    rw [DN] at h
    obtain ⟨a, ys, e, ha, _⟩ := h
    cases e
    rw [hp] at ha
    cases ha
  | dict _ => rw [DN] at h; exact h.elim
  | _ => rw [DN] at h; cases h
theorem dn_lst {d : PyData} {xs : List V} (h : DN H d (.ref p)) (hp : H p = some (.lst xs)) : ∃ ds, d = .list ds ∧ NB (.lst xs) ∧ DNs H ds xs := by
  cases d with
  | list ds =>
    rw [DN] at h
    obtain ⟨a, ys, e, ha, nb, hd⟩ := h
    cases e
    rw [hp] at ha
    cases ha
    exact ⟨ds, rfl, nb, hd⟩
  | tuple ds =>
    rw [DN] at h
    obtain ⟨a, ys, e, ha, _⟩ := h
    cases e
    rw [hp] at ha
    cases ha
  | dict _ => rw [DN] at h; exact h.elim
  | _ => rw [DN] at h; cases h
theorem dn_int {d : PyData} {i : Int} (h : DN H d (.int i)) : d = .int i := by
  cases d with
  | int j => rw [DN] at h; cases h; rfl
  | list ds => rw [DN] at h; obtain ⟨a, xs, e, _⟩ := h; cases e
  | tuple ds => rw [DN] at h; obtain ⟨a, xs, e, _⟩ := h; cases e
  | dict _ => rw [DN] at h; exact h.elim
  | _ => rw [DN] at h; cases h
theorem _root_.Sx.Thing.lstOr (t : Thing K H v) : (∃ p xs, v = .ref p ∧ H p = some (.lst xs) ∧ NB (.lst xs)) ∨ (∃ bI bB bT bS bD, Kinds K H v bI bB bT false bS bD) ∧ ∀ p xs, v = .ref p → H p ≠ some (.lst xs) := by
  cases t with
  | int i => exact .inr ⟨⟨_, _, _, _, _, Kinds.int⟩, fun p xs e => by cases e⟩
  | bl b => exact .inr ⟨⟨_, _, _, _, _, Kinds.bl⟩, fun p xs e => by cases e⟩
  | non => exact .inr ⟨⟨_, _, _, _, _, Kinds.non⟩, fun p xs e => by cases e⟩
  | str z => exact .inr ⟨⟨_, _, _, _, _, Kinds.str⟩, fun p xs e => by cases e⟩
  | lst h n => exact .inl ⟨_, _, rfl, h, n⟩
  | tup h => exact .inr ⟨⟨_, _, _, _, _, Kinds.tup h⟩, fun p xs e q => by cases e; rw [h] at q; cases q⟩
  | dK h => exact .inr ⟨⟨_, _, _, _, _, Kinds.dK h⟩, fun p xs e q => by cases e; rw [h] at q; cases q⟩
  | ins h c => exact .inr ⟨⟨_, _, _, _, _, Kinds.ins h c⟩, fun p xs e q => by cases e; rw [h] at q; cases q⟩
end
/-! small data put together -/
theorem all_app : ∀ xs ys : List PyData, PyData.showableAll (xs ++ ys) = (PyData.showableAll xs && PyData.showableAll ys) ∧ PyData.hasDictAll (xs ++ ys) = (PyData.hasDictAll xs || PyData.hasDictAll ys) ∧ PyData.leavesShortAll 60 (xs ++ ys) = (PyData.leavesShortAll 60 xs && PyData.leavesShortAll 60 ys) ∧
    PyData.canLayAll0 (xs ++ ys) = (PyData.canLayAll0 xs && PyData.canLayAll0 ys) ∧ PyData.bulkAll (xs ++ ys) = PyData.bulkAll xs + PyData.bulkAll ys ∧ PyData.depthAll (xs ++ ys) = max (PyData.depthAll xs) (PyData.depthAll ys)
  | [], ys => by simp [PyData.showableAll, PyData.hasDictAll, PyData.leavesShortAll, PyData.canLayAll0, PyData.bulkAll, PyData.depthAll]
  | x :: xs, ys => by
    obtain ⟨h1, h2, h3, h4, h5, h6⟩ := all_app xs ys
    refine ⟨?_, ?_, ?_, ?_, ?_, ?_⟩
    · simp [PyData.showableAll, h1, Bool.and_assoc]
    · simp [PyData.hasDictAll, h2, Bool.or_assoc]
    · simp [PyData.leavesShortAll, h3, Bool.and_assoc]
    · simp [PyData.canLayAll0, h4, Bool.and_assoc]
    · simp only [List.cons_append, PyData.bulkAll, h5]; omega
    · simp only [List.cons_append, PyData.depthAll, h6]; omega
theorem sml_cat {b1 b2 e : Nat} {xs ys : List PyData} (s1 : Sml b1 e (.list xs)) (s2 : Sml b2 e (.list ys)) : Sml (b1 + b2) e (.list (xs ++ ys)) := by
  obtain ⟨h1, h2, h3, h4, h5, h6⟩ := all_app xs ys
  obtain ⟨a1, a2, a3, a4, a5, a6⟩ := s1
  obtain ⟨c1, c2, c3, c4, c5, c6⟩ := s2
  simp only [PyData.showable, PyData.hasDict, PyData.leavesShort, PyData.canLay0, PyData.bulk, PyData.depth] at *
  refine ⟨?_, ?_, ?_, ?_, ?_, ?_⟩
  · simp [PyData.showable, h1, a1, c1]
  · simp [PyData.hasDict, h2, a2, c2]
  · simp [PyData.leavesShort, h3, a3, c3]
  · simp [PyData.canLay0, h4, a4, c4]
  · simp only [PyData.bulk, h5]; omega
  · simp only [PyData.depth, h6]; omega
theorem dns_app {H : Hp} : ∀ {ds es : List PyData} {xs ys : List V}, DNs H ds xs → DNs H es ys → DNs H (ds ++ es) (xs ++ ys)
  | [], _, _, _, h, k => by rw [DNs] at h; subst h; exact k
  | d :: ds, _, _, _, h, k => by
    rw [DNs] at h
    obtain ⟨x, r, rfl, h1, h2⟩ := h
    exact dnCons h1 (dns_app h2 k)
/-! a list put together that nothing changes any more -/
def rCatF : R2 := fun x y H Q => ∃ l b xs zs, x = .ref l ∧ y = .ref b ∧ H l = some (.lst xs) ∧ H b = some (.lst zs) ∧ xs.length + zs.length ≤ sizeLine ∧ ∀ p o, H p = none → Q (.ref p) (upd H p (.frz o (.lst (xs ++ zs))))
theorem op_catF {X : Cx} : OpR X (binaryOp .Add) rCatF := by
  intro pins s σ H x y v u Q I rx ry h
  obtain ⟨l, b, xs, zs, rfl, rfl, hH, hB, hz, q⟩ := h
  cases rx
  cases ry
  obtain ⟨z, its, n, r, hl, e⟩ := I.lstM hH
  obtain ⟨z2, its2, n2, r2, hl2, e2⟩ := I.lstM hB
  refine PySem.P.add_list e e2 ?_ (by rw [List.size_toArray, List.size_toArray]; omega)
  have ea : its.toArray ++ its2.toArray = (its ++ its2).toArray := by simp
  rw [ea]
  refine ⟨.ref _, _, I.laid (t' := s.toks) (o := .frz { cls := .type "list", data := .seq (its ++ its2).toArray } (.lst (xs ++ zs))) (fun b o e => Heap.get?_push_of_some _ e) (Nat.le_refl _) ?_, rfl, q _ _ (I.hok.fresh (Nat.le_refl _))⟩
  exact ⟨Heap.get?_push_size _ rfl, by rw [List.length_append]; omega, its ++ its2, _, r.append r2, Heap.get?_push_size _ rfl⟩
section
variable {K : PySem.W.Frag} {H H1 : Hp} {p a b : Addr} {Q : VK} {xs ys : List V}
theorem x_catF (h : H a = some (.lst xs)) (h' : H b = some (.lst ys)) (l : xs.length + ys.length ≤ sizeLine) (k : ∀ p o H1, Ex H H1 → H1 p = some (.frz o (.lst (xs ++ ys))) → Q (.ref p) H1) : rCatF (.ref a) (.ref b) H Q :=
  ⟨a, b, xs, ys, rfl, rfl, h, h', l, fun p o hp => k p o _ (Ex.new hp) upd_same⟩
theorem _root_.Sx.Kinds.frz {o : Obj} (e : H a = some (.frz o (.lst xs))) : Kinds K H (.ref a) false false false true false false := ⟨_, .base (.frz e), kit_ty (by decide +kernel), kit_ty (by decide +kernel), kit_ty (by decide +kernel), kit_ty (by decide +kernel), kit_ty (by decide +kernel), kit_ty (by decide +kernel)⟩
theorem sql_frz {o : Obj} (e : H a = some (.frz o (.lst xs))) : SqL K H a xs := .inl (.inr ⟨_, e⟩)
end
section
variable {K : PySem.W.Frag} {H H1 : Hp} {v u : V} {p a b : Addr} {Q : VK} {σ : L2.St} {te : TE} {t : TT}
theorem showsD {d : PyData} {b e : Nat} (h : ∀ H1, Ex H H1 → Dp K H1 v d) (s : Sml b e d) (hb : b ≤ 100000) (he : e ≤ 40) : ∀ H1 Q, Ex H H1 → Q (.str d.shown) H1 → rReprY K [v] H1 Q :=
  fun H1 Q f q => .inl (.inl ⟨v, d, rfl, h H1 f, s.shw hb he, q⟩)
/-- data against data -/
theorem AlB.dataD {d e : PyData} {b1 e1 b2 e2 : Nat} (hd : ∀ H1, Ex H H1 → Dp K H1 v d) (he : ∀ H1, Ex H H1 → Dp K H1 u e) (sd : Sml b1 e1 d) (se : Sml b2 e2 e) (hb1 : b1 ≤ 100000) (he1 : e1 ≤ 40) (hb2 : b2 ≤ 100000) (he2 : e2 ≤ 40) (n : noB e = true) {r : Bool} (hr : r = true ↔ d = e) : AlB K H v u r := by
  refine ⟨PyData.eqv d e, fun H1 Q f q => ?_, fun z => ?_, fun z => ?_⟩
  · exact .inl (.inr (.inl ⟨d, e, hd H1 f, he H1 f, shaped_sml sd he1, shaped_sml se he2, q⟩))
  · cases r with
    | false => rfl
    | true =>
      have := hr.mp rfl
      subst this
      rw [SeqAt.eqv_refl d sd.lay] at z
      cases z
  · refine ⟨_, _, showsD hd sd hb1 he1, showsD he se hb2 he2, ?_⟩
    by_cases q : d = e
    · rw [hr.mpr q, q]; simp
    · have : ¬ d.shown = e.shown := fun s => q (is_it n z s)
      rw [decide_eq_false this]
      cases r with
      | false => rfl
      | true => exact absurd (hr.mp rfl) q
theorem dn_all {d : PyData} (h : DN H d v) : ∀ H1, Ex H H1 → Dp K H1 v d := fun H1 e => DN.dp _ _ (DN.mono e _ _ h)
theorem dns_thing : ∀ {ds : List PyData} {ys : List V}, DNs H ds ys → ∀ y ∈ ys, Thing K H y
  | [], ys, h => by rw [DNs] at h; subst h; exact fun _ m => nomatch m
  | d :: ds, ys, h => by
    rw [DNs] at h
    obtain ⟨y, r, rfl, h1, h2⟩ := h
    exact Er.All.cons (dn_thing h1) (dns_thing h2)
/-- a comprehension over a list that may be frozen -/
theorem lc_sql {xs : List V} {j : Nat} {vs : List Nat} (hq : ∀ H', Ex H1 H' → SqL K H' a xs) (I : Nat → List V → Hp → Prop) (h0 : I 0 [] H1) (mono : ∀ i acc H H', Tx H H' → I i acc H → I i acc H') (nb : ∀ i acc H, I i acc H → NB (.lst acc) ∧ acc.length < sizeLine)
    (hw : ∀ x, wipe ((wipe σ vs).set j (some x)) vs = wipe σ vs)
    (turn : ∀ (i : Nat) x acc H', xs[i]? = some x → Ex H1 H' → I i acc H' → ∀ kk : Option V → Hp → Prop, (∀ y H4, Ex H' H4 → I (i + 1) (acc ++ [y]) H4 → kk (some y) H4) → (∀ H4, Ex H' H4 → I (i + 1) acc H4 → kk none H4) →
      t ((wipe σ vs).set j (some x)) H' fun b H3 => if b = true then te ((wipe σ vs).set j (some x)) H3 (fun y H4 => kk (some y) H4) else kk none H3)
    (k : ∀ p ys H2, Ex H1 H2 → H1 p = none → H2 p = some (.lst ys) → I xs.length ys H2 → Q (.ref p) H2) : LK K (.ref a) H1 fun J H2 => LcGo J (gName j) t te vs σ H2 Q := by
  refine ⟨a, rfl, ⟨xs, hq _ (Ex.refl _)⟩, lc_any (n := xs.length) I h0 mono nb (fun i H' hi e => ⟨xs, xs[i], hq H' e, by simp [hi]⟩) (fun H' e => ⟨xs, hq H' e, Nat.le_refl _⟩) (fun i acc x H' H'' hi e q y kk k1 k2 => ?_) k⟩
  obtain ⟨rfl, y⟩ := y
  exact ⟨hw _, turn i x acc _ (y xs (hq _ e)) e q kk k1 k2⟩
end
end Er

set_option Elab.async false
set_option linter.all false
set_option maxRecDepth 100000
set_option maxHeartbeats 2000000
/-! dicts keyed by tuples; places seen -/
namespace Er
open PySem PySem.Spec PyProof.Rows L2 Sx
theorem hu1 {n c : Nat} (h : n + 64 < c) : n + 1 < c := by omega
theorem _root_.Sx.NB.dT {kvs : List (List Key × V)} : NB (.dT kvs) := fun _ _ _ _ h => nomatch h
section
variable {H H1 H2 : Hp} {a b : Addr} {K : PySem.W.Frag} {σ : L2.St} {Q : VK} {D : Ends} {td ty tv : TE} {kvs : List (List Key × V)} {k : List Key} {y v : V}
def DNI (y x : V) (H2 : Hp) (Q : VK) : Prop := ∃ a o, x = .ref a ∧ DGet H2 a y o ∧ Q (.bl (!o.isSome)) H2
theorem x_dNotIn (k : ty σ H fun y H1 => td σ H1 fun x H2 => DNI y x H2 Q) : tDNotIn ty td σ H Q := k
theorem x_dni (h : H a = some (.dT kvs)) (hb : H b = some (.tup (k.map kV))) (kk : Q (.bl (!(valV kvs k).isSome)) H) : DNI (.ref b) (.ref a) H Q := ⟨a, _, rfl, DGet.t h hb, kk⟩
def DPK (v x y : V) (H3 : Hp) (R : Hp → Prop) : Prop := ∃ a H4, x = .ref a ∧ DPut H3 a y v H4 ∧ R H4
theorem x_dPut (k : tv σ H fun v H1 => td σ H1 fun x H2 => ty σ H2 fun y H3 => DPK v x y H3 (D.nx σ)) : sDPut td ty tv D σ H := k
theorem x_dpk {R : Hp → Prop} (h : H a = some (.dT kvs)) (hb : H b = some (.tup (k.map kV))) (hl : kvs.length < sizeLine) (kk : R (upd H a (.dT (putK kvs k v)))) : DPK v (.ref a) (.ref b) H R := ⟨a, _, rfl, DPut.t h hb hl, kk⟩
theorem x_dnewT (k : JustNew (.dT []) H Q) : tDNewT σ H Q := k
end
/-! places by their numbers -/
def pk (F : Int) (n : Nat) : List Key := [.inl ((n : Int) / F), .inl ((n : Int) % F)]
theorem pk_inj {F : Int} {n m : Nat} (h : pk F n = pk F m) : n = m := by
  unfold pk at h
  injection h with h1 h2
  injection h1 with h1
  injection h2 with h2 _
  injection h2 with h2
  have a := Int.mul_ediv_add_emod (n : Int) F
  have b := Int.mul_ediv_add_emod (m : Int) F
  rw [h1, h2, b] at a
  omega
def seenK (F : Int) (ks : List Nat) : List (List Key × V) := ks.map fun n => (pk F n, V.bl true)
theorem seen_val {F : Int} {ks : List Nat} {n : Nat} : (valV (seenK F ks) (pk F n)).isSome = decide (n ∈ ks) := by
  induction ks with
  | nil => rfl
  | cons k ks ih =>
    by_cases e : k = n
    · subst e
      rw [show seenK F (k :: ks) = (pk F k, V.bl true) :: seenK F ks from rfl, valV_pos rfl]
      simp
    · rw [show seenK F (k :: ks) = (pk F k, V.bl true) :: seenK F ks from rfl, valV_neg (fun h => e (pk_inj h)), ih]
      have : n ≠ k := fun h => e h.symm
      simp [this]
theorem seen_put {F : Int} {ks : List Nat} {n : Nat} : putK (seenK F ks) (pk F n) (.bl true) = seenK F (if n ∈ ks then ks else ks ++ [n]) := by
  have any : ((seenK F ks).any fun kv => decide (kv.1 = pk F n)) = decide (n ∈ ks) := by
    unfold seenK
    rw [List.any_map, Bool.eq_iff_iff, List.any_eq_true, decide_eq_true_eq]
    constructor
    · rintro ⟨m, h1, h2⟩
      have : m = n := pk_inj (of_decide_eq_true h2)
      exact this ▸ h1
    · intro h
      exact ⟨n, h, by simp⟩
  unfold putK
  rw [any]
  by_cases h : n ∈ ks
  · rw [if_pos (decide_eq_true h), if_pos h]
    unfold seenK
    rw [List.map_map]
    apply List.map_congr_left
    intro m hm
    simp only [Function.comp]
    split <;> rfl
  · rw [if_neg (by simp [h]), if_neg h]
    unfold seenK
    rw [List.map_append]
    rfl
theorem nodup_le : ∀ (N : Nat) (l : List Nat), l.Nodup → (∀ x ∈ l, x < N) → l.length ≤ N
  | 0, l, _, h => by
    cases l with
    | nil => exact Nat.le_refl _
    | cons x r => exact absurd (h x (by simp)) (by omega)
  | N + 1, l, nd, h => by
    by_cases m : N ∈ l
    · have := nodup_le N (l.erase N) (nd.erase N) fun x hx => by
        have h1 := (nd.mem_erase_iff).mp hx
        have := h x h1.2
        have := h1.1
        omega
      rw [List.length_erase_of_mem m] at this
      omega
    · have := nodup_le N l nd fun x hx => by
        have := h x hx
        have : x ≠ N := fun e => m (e ▸ hx)
        omega
      omega
theorem mutO {H H1 : Hp} {l : Addr} {o o' : HO} (e : Ex H H1) (n : NF H l) (h : H1 l = some o') (nb : NB o') : Ex H (upd H1 l o) := by
  refine ⟨fun a o2 q nn => ?_, fun b c q => ?_⟩
  · have hne : a ≠ l := fun ea => n o2 nn (ea ▸ q)
    rw [upd_ne hne]
    exact e.kp a o2 q nn
  · obtain ⟨x0, y0, z0, ns0, k1, k2, _⟩ := id q
    obtain ⟨x, y, z, ns, e1, e2, r⟩ := e.bg b c q
    have hb : b ≠ l := fun ea => by
      subst ea
      rw [h] at e1
      injection e1 with e1
      exact nb x y z c e1
    have hc : c ≠ l := fun ea => n _ NB.ints (ea ▸ k2)
    exact ⟨x, y, z, ns, by rw [upd_ne hb]; exact e1, by rw [upd_ne hc]; exact e2, r⟩
end Er

set_option Elab.async false
set_option maxRecDepth 100000
set_option maxHeartbeats 2000000
set_option linter.all false
/-! errors of the program held as values: made, asked for their class, read -/
namespace Er
open PySem PySem.Spec PyProof.Rows L2 Sx
section
variable {X : Cx} {CX : CXT} {x : Str} {C fI : Addr} {k : Nat} {fd : FuncData} {ps : List Str} {sp : Sp} {e : Expr} {es : List Expr} {ta : TA} {te : TE} {p pos : Pos}
/-- C(a, ..) as a value, C's own __init__ keeping sp -/
def ErrK (C : Addr) (sp : Sp) (vs : List V) (H1 : Hp) (Q : VK) : Prop := vs.length ≤ 1000 ∧ ∀ a, H1 a = none → sp (.ref a :: (vs ++ [])) (upd H1 a (exo a C none)) (fun v H2 => v = .non ∧ Q (.ref a) H2) (fun _ _ _ => False)
def tErr (C : Addr) (sp : Sp) (ta : TA) : TE := fun σ H Q => ta σ H fun vs H1 => ErrK C sp vs H1 Q
def tErr0 (C : Addr) : TE := fun _ H Q => ∀ a, H a = none → Q (.ref a) (upd H a (exo a C none))
theorem pe_err (T : OexC X.K C) (iC : PySem.W.findIn X.K (.ref C) "__init__" = some (some (.ref fI)))
    (tI : PySem.W.typeIn X.K (.ref fI) = some (.type "function")) (F1 : FnOk X.prog X.w X.K X.mg X.base CX k fI fd ps sp)
    (hr : Room (k + 1) X.A) (hb : Binds X.K fd ps []) (hx : Passes CX X (fun _ _ _ => False)) (hg : Gl X x) (hm : X.mg x = some (.ref C))
    (ha : PA X (e :: es) ta) (nd : (x == ("__debug__" : Str)) = false := by decide)
    (h1 : starEach (e :: es) X.env = (false, eval e X.env) :: starEach es X.env := by rfl)
    (h2 : (backTo pos (starEach es X.env)).any (·.1) = false := by rfl) :
    PE X (.Call (.Name x p) (e :: es) [] pos) (tErr C sp ta) := by
  refine ⟨fun pins s σ H Q I h => ?_⟩
  obtain ⟨nm, q, N, bs, bm, sn, sub, ab, col, dd, k0, k1, k2, k3, k5, hC, hbm⟩ := T.cls
  refine wpAny_Call_Name_kw (ld_glob I hg hm ?_ nd)
  refine PySem.W.callWith_K (h₀ := X.base) I.ok.mod.kin T.kC (thn (ha.run pos pins s σ H _ I h) ?_) h1 h2
  rintro us s1 ⟨vs, H1, I1, r1, hz, q1⟩
  refine ⟨I1.kIn, ?_⟩
  show wpAny _ _ (call (.ref C) us) _ _ _
  obtain ⟨hp, g, dr, tk, os⟩ := s1
  let n := hp.objs.size
  let hq : Heap := (hp.push (PySem.W.kdv_tup us)).push (PySem.HandSPX.excO C n)
  have up : ∀ b o, hp.get? b = some o → hq.get? b = some o := by
    intro b o z
    exact Heap.get?_push_of_some _ (Heap.get?_push_of_some _ z)
  have at1 : ((hp.push (PySem.W.kdv_tup us)).push (PySem.HandSPX.excO C hp.objs.size)).get? (hp.objs.size + 1) = some (PySem.HandSPX.excO C hp.objs.size) := by heap_get
  have le1 : n ≤ n + 1 := Nat.le_succ _
  have promise := q1 (n + 1) (I1.hok.fresh le1)
  rw [List.append_nil] at promise
  have I2 : Inv X pins σ (upd H1 (n + 1) (exo (n + 1) C none)) ⟨hq, g, dr, tk, os⟩ := I1.laid (t' := tk) up le1 (exo_ok at1)
  have vals : Vals (V.ref (n + 1) :: vs) (Value.ref (n + 1) :: us) := .cons rfl r1
  have len : (Value.ref (n + 1) :: us ++ []).length = ps.length := by
    rw [List.append_nil, ← vals.length]
    exact F1.len _ _ _ _ promise
  have few : us.length ≤ sizeLine := by
    have a := Paired.length r1
    have b := sizeLine_eq
    omega
  have bnd := hb ⟨hq, g, dr, tk, os⟩ (Value.ref (n + 1) :: us) I2.kIn len
  rw [List.append_nil] at bnd
  have body := F1.run _ X.stack ⟨hq, g, dr, tk, os⟩ _ ⟨Value.ref (n + 1) :: us, []⟩ _ _ _ (fun _ _ _ => False) (hr.make C us []) (I2.env0.make C us []) bnd vals promise
  refine wpAny_call (PySem.HandSPX.call_own F.excBase_ValueError (fun Y => PySem.HandSPX.refsVE_contains Y bm hbm) (I1.kIn _ _ hC)
    (PySem.W.looks_findIn I1.kIn iC) (fun self => PySem.W.bind_fn I1.kIn self tI) few (codeAny_mono body ?_))
  rintro r s' way
  match r, way with
  | .error er, way => exact hx pins σ _ _ er _ I2 way
  | .ok (.ret u), way =>
    obtain ⟨v, H2, I3, rv, ev, q2⟩ := I2.after way
    subst ev
    exact ⟨rv, .ref (n + 1), H2, I3, rfl, q2⟩
/-- C() as a value, C without an __init__ of its own -/
theorem pe_err0 {bmB : List Value} {B newId initId : String} (F : ExcBaseFacts B newId initId bmB) (q : PySem.W.excIn X.K C bmB newId = true)
    (hm : X.mg x = some (.ref C)) (kC : PySem.W.keepIn X.K (.ref C) = true) (hg : Gl X x)
    (nd : (x == ("__debug__" : Str)) = false := by decide) :
    PE X (.Call (.Name x p) [] [] pos) (tErr0 C) := by
  refine ⟨fun pins s σ H Q I h => ?_⟩
  refine wpAny_Call_Name_kw (ld_glob I hg hm ?_ nd)
  refine PySem.W.callWith_K0 I.kIn kC ?_
  show wpAny _ _ (call (.ref C) []) _ _ _
  obtain ⟨bm, N, nm, qn, bs, hdct, sn, sub, ab, col, dd, k0, k1, k2, k3, k5, mN, hC, hN, hni, T⟩ := exc_obj I.kIn q
  refine wpAny_call_exc_subT F T hC hN hni ?_ (Nat.zero_le _)
  intro h' a hmade
  have hn : H a = none := I.hok.gone hmade.new
  obtain ⟨t, ht, _, _⟩ := hmade.there
  exact ⟨.ref a, upd H a (exo a C none), I.laidN hmade.keeps hmade.new hn (exo_ok ht), rfl, h a hn⟩
/-- isinstance(e, c), e an error that is held as a value -/
def rIsE (K : PySem.W.Frag) : List V → Hp → VK → Prop := fun xs H Q =>
  ∃ (a D : Addr) (d : Option Addr) (c : V) (cv : Value) (b : Bool), XC K D ∧ H a = some (exo a D d) ∧ (d = none ∨ ∃ dd fs, d = some dd ∧ H dd = some (exd dd fs)) ∧
    xs = [.ref a, c] ∧ (∀ u, RelV c u → u = cv) ∧ PySem.W.kitOne K (.ref D) cv = some b ∧ Q (.bl b) H
theorem inst_at {pins : List (Addr × Obj)} {σ : L2.St} {H : Hp} {s : Shared} {a D : Addr} {d : Option Addr} (I : Inv X pins σ H s) (ha : H a = some (exo a D d)) (hd : d = none ∨ ∃ dd fs, d = some dd ∧ H dd = some (exd dd fs)) : ∃ oe od, PySem.W.InstAt s.heap a oe D od := by
  obtain ⟨t1, ho⟩ := exo_at I.hok ha
  rcases hd with rfl | ⟨dd, fs, rfl, ed⟩
  · exact ⟨_, none, ho, rfl, rfl, trivial⟩
  · obtain ⟨mA, ⟨o, es, ep, hdo, _⟩, _⟩ := exd_at I.hok ed
    exact ⟨_, some _, ho, rfl, rfl, hdo⟩
theorem call_isE : CallR X (.builtin "isinstance") (rIsE X.K) := by
  intro pins s σ H xs us Q I r h
  obtain ⟨a, D, d, c, cv, b, T, ha, hd, rfl, hcv, e, q⟩ := h
  match us, r with
  | [_, u], .cons rx (.cons rt .nil) =>
    cases rx
    obtain rfl := hcv _ rt
    obtain ⟨oe, od, J⟩ := inst_at I ha hd
    have ok := PySem.W.kitx_exc (x := a) (ox := oe) (od := od) T.isC T.ga T.gg T.oex.exC T.ha T.hn T.ht T.hm
    exact PySem.W.kia_one ok I.kIn J e (fun z => nomatch z) (fun tk => ⟨.bl b, H, I.kept (t' := tk) (fun _ _ z => z), rfl, q⟩)
/-- e.f, e an error that is held as a value -/
def EfK (K : PySem.W.Frag) (f : Str) (Q : VK) (x : V) (H1 : Hp) : Prop := ∃ (a C dd : Addr) (fs : List (Str × V)) (v : V), x = .ref a ∧ XC K C ∧ PySem.W.findIn K (.ref C) f = some none ∧ H1 a = some (exo a C (some dd)) ∧ H1 dd = some (exd dd fs) ∧ fs.lookup f = some v ∧ Q v H1
def tEf (K : PySem.W.Frag) (f : Str) (te : TE) : TE := fun σ H Q => te σ H (EfK K f Q)
theorem pe_ef {n : Str} (he : PE X e te) (hb : attributeBase e n X.env (eval e X.env) = eval e X.env := by rfl) :
    PE X (.Attribute e n pos) (tEf X.K n te) := by
  refine ⟨fun pins s σ H Q I h => ?_⟩
  refine attr_of hb (thn (he.run pins s σ H _ I h) ?_)
  rintro u s1 ⟨x, H1, I1, rx, a, C, dd, fs, v, rfl, T, hno, ha, ed, l, q⟩
  cases rx
  obtain ⟨t1, here⟩ := exo_at I1.hok ha
  obtain ⟨mA, hns, hr⟩ := exd_at I1.hok ed
  obtain ⟨od, ho, hl⟩ := lookIn_ns hns
  obtain ⟨u, hu, ru⟩ := RelO.some_of (v := v) (o := mA n) (by rw [← l]; exact hr n)
  have J : PySem.W.InstAt s1.heap a _ C (some od) := ⟨here, rfl, rfl, ho⟩
  exact HandSPX.exc_get I1.kIn J T.ga T.gg T.oex.exC (PySem.W.findObj_own T.hd hno rfl (by rw [hl, hu])) (handed_of ru) ⟨v, H1, I1.tok _, ru, q⟩
end
/-! what the readings ask -/
section
variable {K : PySem.W.Frag} {σ : L2.St} {H H1 : Hp} {Q : VK} {C a dd : Addr} {f g : Str} {v y z : V} {ta : TA} {te : TE}
/-- an error as a value: the fields it holds -/
def ErrV (K : PySem.W.Frag) (H : Hp) (v : V) (C : Addr) (fs : List (Str × V)) : Prop := XC K C ∧ ∃ a, v = .ref a ∧ ((fs = [] ∧ H a = some (exo a C none)) ∨ ∃ dd, H a = some (exo a C (some dd)) ∧ H dd = some (exd dd fs))
theorem nb_exo {a C : Addr} {d : Option Addr} : NB (exo a C d) := fun _ _ _ _ h => by
  have h' : HO.ext _ = HO.lst _ := h
  cases h'
theorem nb_exd {a : Addr} {fs : List (Str × V)} : NB (exd a fs) := fun _ _ _ _ h => by
  have h' : HO.ext _ = HO.lst _ := h
  cases h'
theorem ErrV.mono {fs : List (Str × V)} (h : ErrV K H v C fs) (e : Ex H H1) : ErrV K H1 v C fs := by
  obtain ⟨t, a, rfl, h⟩ := h
  refine ⟨t, a, rfl, ?_⟩
  rcases h with ⟨z, h⟩ | ⟨dd, h1, h2⟩
  · exact .inl ⟨z, e.kp _ _ h nb_exo⟩
  · exact .inr ⟨dd, e.kp _ _ h1 nb_exo, e.kp _ _ h2 nb_exd⟩
theorem x_er {sp : Sp} (k : ta σ H fun vs H1 => ErrK C sp vs H1 Q) : tErr C sp ta σ H Q := k
theorem x_eff (k : te σ H (EfK K f Q)) : tEf K f te σ H Q := k
theorem x_er1 (t : XC K C) (k : ∀ p H2, Ex H H2 → ErrV K H2 (.ref p) C [(f, y)] → Q (.ref p) H2) : ErrK C (sp_init C f) [y] H Q := by
  refine ⟨by show 1 ≤ 1000; decide, fun a ha => ⟨a, y, rfl, upd_same, fun dx hx ne => ⟨rfl, ?_⟩⟩⟩
  have hn : H dx = none := by rw [upd_ne ne] at hx; exact hx
  have e : upd (upd (upd H a (exo a C none)) dx (exd dx [(f, y)])) a (exo a C (some dx)) = upd (upd H dx (exd dx [(f, y)])) a (exo a C (some dx)) := by
    funext b
    by_cases h1 : b = a
    · rw [h1, upd_same, upd_same]
    · rw [upd_ne h1, upd_ne h1]
      by_cases h2 : b = dx
      · rw [h2, upd_same, upd_same]
      · rw [upd_ne h2, upd_ne h2, upd_ne h1]
  rw [e]
  have e1 : Ex H (upd H dx (exd dx [(f, y)])) := Ex.new hn
  have e2 : Ex (upd H dx (exd dx [(f, y)])) (upd (upd H dx (exd dx [(f, y)])) a (exo a C (some dx))) := Ex.new (by rw [upd_ne (Ne.symm ne)]; exact ha)
  exact k _ _ (e1.trans e2) ⟨t, a, rfl, .inr ⟨dx, upd_same, by rw [upd_ne ne]; exact upd_same⟩⟩
theorem x_er2 (t : XC K C) (k : ∀ p H2, Ex H H2 → ErrV K H2 (.ref p) C [(g, z), (f, y)] → Q (.ref p) H2) : ErrK C (sp_init2 C f g) [y, z] H Q := by
  refine ⟨by show 2 ≤ 1000; decide, fun a ha => ⟨a, y, z, rfl, upd_same, fun dx hx ne => ⟨rfl, ?_⟩⟩⟩
  have hn : H dx = none := by rw [upd_ne ne] at hx; exact hx
  have e : upd (upd (upd H a (exo a C none)) dx (exd dx [(g, z), (f, y)])) a (exo a C (some dx)) = upd (upd H dx (exd dx [(g, z), (f, y)])) a (exo a C (some dx)) := by
    funext b
    by_cases h1 : b = a
    · rw [h1, upd_same, upd_same]
    · rw [upd_ne h1, upd_ne h1]
      by_cases h2 : b = dx
      · rw [h2, upd_same, upd_same]
      · rw [upd_ne h2, upd_ne h2, upd_ne h1]
  rw [e]
  have e1 : Ex H (upd H dx (exd dx [(g, z), (f, y)])) := Ex.new hn
  have e2 : Ex (upd H dx (exd dx [(g, z), (f, y)])) (upd (upd H dx (exd dx [(g, z), (f, y)])) a (exo a C (some dx))) := Ex.new (by rw [upd_ne (Ne.symm ne)]; exact ha)
  exact k _ _ (e1.trans e2) ⟨t, a, rfl, .inr ⟨dx, upd_same, by rw [upd_ne ne]; exact upd_same⟩⟩
theorem x_er0 (t : XC K C) (k : ∀ p H2, Ex H H2 → ErrV K H2 (.ref p) C [] → Q (.ref p) H2) : tErr0 C σ H Q := fun a ha => k _ _ (Ex.new ha) ⟨t, a, rfl, .inl ⟨rfl, upd_same⟩⟩
theorem x_isE {c : Addr} {b : Bool} {fs : List (Str × V)} (h : ErrV K H v C fs) (hk : PySem.W.kitOne K (.ref C) (.ref c) = some b) (k : Q (.bl b) H) : rIsE K [v, .ref c] H Q := by
  obtain ⟨t, a, rfl, h⟩ := h
  rcases h with ⟨_, h⟩ | ⟨dd, h1, h2⟩
  · exact ⟨a, C, none, .ref c, .ref c, b, t, h, .inl rfl, rfl, fun u h => h, hk, k⟩
  · exact ⟨a, C, some dd, .ref c, .ref c, b, t, h1, .inr ⟨dd, fs, rfl, h2⟩, rfl, fun u h => h, hk, k⟩
theorem x_efk {q : Str × V} {r : List (Str × V)} (h : ErrV K H v C (q :: r)) (hno : PySem.W.findIn K (.ref C) f = some none) (l : (q :: r).lookup f = some y) (k : Q y H) : EfK K f Q v H := by
  obtain ⟨t, a, rfl, h⟩ := h
  rcases h with ⟨z, _⟩ | ⟨dd, h1, h2⟩
  · cases z
  · exact ⟨a, C, dd, _, y, rfl, t, hno, h1, h2, l, k⟩
theorem x_isEv {z : String} {b : Bool} {fs : List (Str × V)} (h : ErrV K H v C fs) (hk : PySem.W.kitOne K (.ref C) (.type z) = some b) (k : Q (.bl b) H) : rIsE K [v, .ty z] H Q := by
  obtain ⟨t, a, rfl, h⟩ := h
  rcases h with ⟨_, h⟩ | ⟨dd, h1, h2⟩
  · exact ⟨a, C, none, .ty z, .type z, b, t, h, .inl rfl, rfl, fun u h => h, hk, k⟩
  · exact ⟨a, C, some dd, .ty z, .type z, b, t, h1, .inr ⟨dd, fs, rfl, h2⟩, rfl, fun u h => h, hk, k⟩
/-- the classes are apart from one another; all are of v -/
def ktab (K : PySem.W.Frag) (cs : List Addr) : Bool := (List.range cs.length).all fun i => (List.range cs.length).all fun j => PySem.W.kitOne K (.ref (cs.getD i 0)) (.ref (cs.getD j 0)) == some (decide (i = j))
def kall (K : PySem.W.Frag) (cs : List Addr) (v : Value) : Bool := cs.all fun c => PySem.W.kitOne K (.ref c) v == some true
theorem kt_at {cs : List Addr} (h : ktab K cs = true) {i j : Nat} {c d : Addr} (hi : cs[i]? = some c) (hj : cs[j]? = some d) : PySem.W.kitOne K (.ref c) (.ref d) = some (decide (i = j)) := by
  have li := (List.getElem?_eq_some_iff.mp hi).1
  have lj := (List.getElem?_eq_some_iff.mp hj).1
  have h1 := List.all_eq_true.mp (List.all_eq_true.mp h i (List.mem_range.mpr li)) j (List.mem_range.mpr lj)
  rw [List.getD_eq_getElem?_getD, List.getD_eq_getElem?_getD, hi, hj] at h1
  exact eq_of_beq h1
theorem ka_at {cs : List Addr} {v : Value} (h : kall K cs v = true) {c : Addr} (m : c ∈ cs) : PySem.W.kitOne K (.ref c) v = some true := eq_of_beq (List.all_eq_true.mp h c m)
end
end Er

set_option Elab.async false
set_option maxRecDepth 100000
set_option maxHeartbeats 2000000
set_option linter.all false
/-! != of lists that hold the same things, of a dict and itself -/
namespace Er
open PySem PySem.Spec PyProof.Rows L2 Sx
def refB : V → Bool
  | .ref _ => true
  | v => flatB v
theorem eqAt_ref {A : Around} {s : Shared} {v : V} {u u' : Value} (r : L2.RelV v u) (r' : L2.RelV v u') (h : refB v = true) : PySem.SeqAt.EqAt A s u u' true := by
  cases v with
  | ref p => cases r; cases r'; exact .same _
  | _ => exact L2.eqAt_same r r' h
theorem eqs_at {A : Around} {s : Shared} {xs : List V} {i1 : List Value} (r1 : Vals xs i1) : ∀ {i2 : List Value}, Vals xs i2 → (∀ v ∈ xs, refB v = true) → ∀ j (h1 : j < i1.length) (h2 : j < i2.length), PySem.SeqAt.EqAt A s i1[j] i2[j] true := by
  induction r1 with
  | nil => intro i2 _ _ j h1; exact absurd h1 (Nat.not_lt_zero _)
  | @cons x u xs us r _ ih =>
    intro i2 r2 hs j h1 h2
    cases r2 with
    | cons r' rs =>
      cases j with
      | zero => exact eqAt_ref r r' (hs x (by simp))
      | succ j => exact ih rs (fun v m => hs v (by simp [m])) j (by simpa using h1) (by simpa using h2)
def rNeL (K : PySem.W.Frag) : R2 := fun x y H Q => ∃ a b xs, x = .ref a ∧ y = .ref b ∧ SqL K H a xs ∧ SqL K H b xs ∧ (∀ v ∈ xs, refB v = true) ∧ Q (.bl false) H
theorem op_neL {X : Cx} (hu : X.A.units + 64 < cLine) : OpR X (compareOp .NotEq) (rNeL X.K) := by
  intro pins s σ H x y v u Q I rx ry h
  obtain ⟨a, b, xs, rfl, rfl, ha, hb, hs, q⟩ := h
  cases rx
  cases ry
  obtain ⟨i1, r1, p1, _⟩ := I.list ha
  obtain ⟨i2, r2, p2, _⟩ := I.list hb
  have l1 := r1.length
  have l2 := r2.length
  have key := PySem.SeqAt.RcNeAt.lists (A := X.A) (e := fun _ => true) p1.isList p2.isList (by simp; omega) (by omega) fun j h1 h2 => eqs_at (A := X.A.in1) (s := s) r1 r2 hs j (by simpa using h1) (by simpa using h2)
  exact key _ _ _ _ ⟨.bl false, H, I, by simp [L2.RelV], q⟩
def rNeSelf : R2 := fun x y H Q => ∃ a kvs, x = .ref a ∧ y = .ref a ∧ H a = some (.dK kvs) ∧ (kvs.map (·.1)).Nodup ∧ (∀ p ∈ kvs, refB p.2 = true) ∧ Q (.bl false) H
theorem hits_self {A : Around} {s : Shared} {kvs : List (Key × V)} {vb : List (Key × Value)} (rb : KV kvs vb) {ks : List (Key × V)} {va : List (Key × Value)} (ra : KV ks va) :
    (∀ p ∈ ks, valV kvs p.1 = some p.2 ∧ refB p.2 = true) → PySem.W.KeqHits A s vb va true := by
  unfold KV at ra
  induction ra with
  | nil => intro _; exact .nil
  | @cons p q ps qs h t ih =>
    intro hp
    obtain ⟨h1, h2⟩ := h
    obtain ⟨e, f⟩ := hp p List.mem_cons_self
    have rr : RelO (some p.2) (valueAt vb p.1) := by rw [← e]; exact rb.val p.1
    obtain ⟨y, hy, ry⟩ := rr.some_of
    obtain ⟨k, v⟩ := q
    have h1' : p.1 = k := h1
    rw [h1'] at hy
    show PySem.W.KeqHits A s vb ((k, v) :: qs) (true && true)
    exact .hit hy (eqAt_ref h2 ry f) (ih fun p' hm => hp p' (List.mem_cons_of_mem _ hm))
theorem op_neSelf {X : Cx} (hu : X.A.units + 64 < cLine) : OpR X (compareOp .NotEq) rNeSelf := by
  intro pins s σ H x y v u Q I rx ry h
  obtain ⟨a, kvs, rfl, rfl, ea, nd, hf, q⟩ := h
  obtain rfl : v = Value.ref a := rx
  obtain rfl : u = Value.ref a := ry
  obtain ⟨_, ya, va, ra, da⟩ := (show ObjOk X.prog X.w H s.heap a (.dK kvs) from I.hok a _ ea)
  refine PySem.W.keq_ne (knd := mixKind X.prog X.w) (r := true) ya ya da da (by omega) (fun _ => hits_self ra ra fun p m => ⟨?_, hf p m⟩) (fin_bl I q (by simp))
  exact val_nodup nd p m
def rNeX (K : PySem.W.Frag) : R2 := fun x y H Q => rNeD K x y H Q ∨ rNeL K x y H Q ∨ rNeSelf x y H Q
theorem op_neX {X : Cx} (hu : X.A.units + 64 < cLine) : OpR X (compareOp .NotEq) (rNeX X.K) := by
  intro pins s σ H x y v u Q I rx ry h
  rcases h with h | h | h
  · exact op_neD hu pins s σ H x y v u Q I rx ry h
  · exact op_neL hu pins s σ H x y v u Q I rx ry h
  · exact op_neSelf hu pins s σ H x y v u Q I rx ry h
section
variable {K : PySem.W.Frag} {H1 : Hp} {a : Addr} {σ : L2.St} {D : Ends}
theorem for_en {xs : List V} {j1 j2 : Nat} {tb : TS} (hx : H1 a = some (.lst xs)) (Pv : Nat → L2.St → Hp → Prop) (h0 : Pv 0 σ H1) (hl : ∀ i σ H, i ≤ xs.length → Pv i σ H → H a = some (.lst xs))
    (hs : ∀ (i : Nat) x σ H H2, xs[i]? = some x → Pv i σ H → Ex H H2 → tb { D with nx := Pv (i + 1), ct := Pv (i + 1), bk := D.nx } ((σ.set j1 (some (.int (i : Nat)))).set j2 (some x)) H2) (hd : ∀ σ H, Pv xs.length σ H → D.nx σ H) :
    EnK K [.ref a] H1 fun J H2 => ForGo J (gTup K 2 (gCons (gName j1) (gCons (gName j2) gNil))) tb D σ H2 := by
  refine ⟨a, xs, rfl, SqL.of hx, fun i m σ H => m = xs.length - i ∧ i ≤ xs.length ∧ Pv i σ H, ⟨xs.length, by simp, Nat.zero_le _, h0⟩, ?_⟩
  rintro i m σ H ⟨rfl, hi, p⟩
  have q : SqL K H a xs := SqL.of (hl i σ H hi p)
  by_cases hlt : i < xs.length
  · refine .inr ⟨⟨xs, xs[i], q, by simp [hlt]⟩, Pv (i + 1), fun σ' H' p' => ⟨xs.length - (i + 1), by omega, rfl, hlt, p'⟩, fun x H' y => ?_⟩
    obtain ⟨T, y, rfl, hT, rfl, hy⟩ := y
    have e2 : Ex H (upd H T (.tup [.int (i : Nat), y])) := Ex.new hT
    refine ⟨T, _, rfl, SqT.of upd_same, rfl, _, _, rfl, _, _, rfl, rfl, ?_⟩
    exact hs i y σ H _ (hy xs q) p e2
  · have e : i = xs.length := by omega
    subst e
    exact .inl ⟨⟨xs, q, Nat.le_refl _⟩, hd σ H p⟩
end
end Er

set_option Elab.async false
set_option linter.all false
set_option maxRecDepth 100000
set_option maxHeartbeats 8000000
namespace My
open PySem PySem.Spec PyProof.Rows L2 Sx
local macro_rules | `(tactic| walk_at "nb") => `(tactic| first | exact NB.tup | exact NB.ints | exact NB.len (of_decide_eq_true rfl) | exact NB.at0b rfl | exact NB.at3b rfl | exact NB.ins | exact NB.own | exact NB.frz | exact NB.refs (by assumption) | assumption)
local macro_rules | `(tactic| walk_at "ne") => `(tactic| first | assumption | exact Ne.symm (by assumption) | exact ne_of_none (by assumption) (by assumption) | exact Ne.symm (ne_of_none (by assumption) (by assumption)))
local macro_rules | `(tactic| walk_at "hk") => `(tactic| first
  | assumption
  | exact upd_same
  | (refine' (upd_ne ?hkne).trans ?hkq; (case hkne => walk_at "ne"); (case hkq => walk_at "hk"))
  | (refine' Ex.kp (by assumption) _ _ ?hkq ?hkn; (case hkq => walk_at "hk"); (case hkn => walk_at "nb")))
local macro_rules | `(tactic| walk_at "rd1") => `(tactic| first
  | ((with_reducible refine' x_var ?hx ?_); (case hx => exact rfl))
  | with_reducible refine x_c ?_
  | with_reducible refine x_op ?_
  | with_reducible refine x_un ?_
  | with_reducible refine x_I0 ?_
  | with_reducible refine x_U ?_
  | ((with_reducible refine x_I ?hc ?_); (case hc => first | exact (by decide : (0 : Int) < _) | (show (0 : Int) < _; omega) | (show CMul _ _; first | exact .inl ⟨by omega, by omega⟩ | exact .inr ⟨by omega, by omega⟩) | (show CDiv _ _; exact ⟨by omega, by omega⟩) | (show CDivW _ _; exact wide_div (b := 200) (by omega) (by assumption) (by decide) (by decide)) | (show CDivW _ _; exact wide_div (b := 31) (by omega) (by omega) (by decide) (by decide))))
  | with_reducible refine x_EqI ?_
  | with_reducible refine x_NeI ?_
  | ((with_reducible refine x_EqSt ?h ?_); (case h => decide +kernel))
  | ((with_reducible refine x_EqSf ?h ?_); (case h => decide +kernel))
  | ((with_reducible refine x_NeSt ?h ?_); (case h => decide +kernel))
  | ((with_reducible refine x_NeSf ?h ?_); (case h => decide +kernel))
  | with_reducible refine x_EqS ?_
  | with_reducible refine x_NeS ?_
  | ((with_reducible refine' x_ixL ?hq ?hi ?_); (case hq => walk_at "hk"); (case hi => first | exact rfl | assumption))
  | ((with_reducible refine' x_ixT ?hq ?hi ?_); (case hq => walk_at "hk"); (case hi => first | exact rfl | assumption))
  | with_reducible refine x_chain ?_
  | with_reducible refine x_tup ?_
  | with_reducible refine x_lst ?_
  | ((with_reducible refine x_lenNew ?hl ?_); (case hl => exact Nat.le_of_ble_eq_true rfl); intro _ _ _ _ _)
  | ((with_reducible refine x_new ?_); intro _ _ _ _ _)
  | with_reducible refine x_sl ?_
  | with_reducible refine x_noPart ?_
  | with_reducible refine x_part ?_
  | with_reducible refine x_ex_int ?_
  | with_reducible refine x_ex_bl ?_
  | with_reducible refine x_ex_2 ?_
  | with_reducible refine x_test ?_
  | with_reducible refine x_B ?_
  | with_reducible refine x_and ?_
  | with_reducible refine x_or ?_
  | with_reducible refine x_not ?_
  | with_reducible refine x_andV ?_
  | with_reducible refine x_orV ?_
  | with_reducible refine x_notV ?_
  | with_reducible refine x_ifE ?_
  | with_reducible refine x_iteT ?_
  | with_reducible refine x_iteF ?_
  | ((with_reducible refine x_iteD ?_ ?_) <;> intro _)
  | ((with_reducible refine x_iteN ?_ ?_) <;> intro _)
  | with_reducible refine x_if ?_
  | with_reducible refine x_seq ?_
  | with_reducible refine x_next ?_
  | with_reducible refine x_asg ?_
  | with_reducible refine x_gName ?_
  | ((with_reducible refine' x_gTup ?hq ?hn ?_); (case hq => walk_at "hk"); (case hn => exact rfl))
  | with_reducible refine x_gCons ?_
  | with_reducible refine x_gNil ?_
  | ((with_reducible refine' x_gConsE ?h ?_); (case h => exact rfl))
  | ((with_reducible refine x_gNilE ?h ?_); (case h => exact rfl))
  | with_reducible refine x_ret ?_
  | with_reducible refine x_drop ?_
  | with_reducible refine x_par ?_
  | ((with_reducible refine' x_aug ?hx ?_); (case hx => exact rfl))
  | with_reducible refine x_ipI ?_
  | with_reducible refine x_augS ?_
  | with_reducible refine x_gSub ?_
  | ((with_reducible refine' x_setL ?hq ?hi ?_); (case hq => walk_at "hk"); (case hi => first | exact rfl | assumption))
  | with_reducible refine x_cons ?_
  | with_reducible refine x_nil ?_
  | with_reducible refine x_CB ?_
  | with_reducible refine x_abs ?_
  | with_reducible refine x_intI ?_
  | with_reducible refine x_intB ?_
  | ((with_reducible refine' x_lenL ?hq ?_); (case hq => walk_at "hk"))
  | ((with_reducible refine' x_lenT ?hq ?_); (case hq => walk_at "hk"))
  | ((with_reducible refine x_iteTe ?h ?_); (case h => exact rfl))
  | ((with_reducible refine x_iteFe ?h ?_); (case h => exact rfl))
  | walk_at "use"
  | with_reducible refine x_callS ?_
  | ((with_reducible refine x_lc ?_))
  | ((with_reducible refine x_for ?_))
  | ((with_reducible refine x_iR1 ?_))
  | ((with_reducible refine x_iL ?_))
  | ((with_reducible refine x_iZ ?_))
  | ((with_reducible refine x_yes ?_))
  | ((with_reducible refine' x_NIDt ?hq ?_); (case hq => assumption))
  | ((with_reducible refine' x_NIDf ?hq ?_); (case hq => assumption))
  | ((with_reducible refine' x_IIDf ?hq ?_); (case hq => assumption))
  | ((with_reducible refine' x_IIDt ?hq ?_); (case hq => assumption))
  | ((with_reducible refine' x_ixDs ?hd ?hq ?_); (case hd => assumption); (case hq => assumption))
  | ((with_reducible refine x_InSt ?h ?_); (case h => decide +kernel))
  | ((with_reducible refine x_InSf ?h ?_); (case h => decide +kernel))
  | ((with_reducible refine' x_notInI ?hq ?_); (case hq => walk_at "hk"))
  | ((with_reducible refine' x_inTt ?hq ?hv ?ha ?he ?_); (case hq => walk_at "hk"); (case hv => exact rfl); (case ha => exact rfl); (case he => decide +kernel))
  | ((with_reducible refine' x_inTf ?hq ?hv ?ha ?he ?_); (case hq => walk_at "hk"); (case hv => exact rfl); (case ha => exact rfl); (case he => decide +kernel))
  | ((with_reducible refine' x_slT ?hq ?hw ?_); (case hq => walk_at "hk"); (case hw => with_unfolding_all exact of_decide_eq_true rfl))
  | ((with_reducible refine' x_slL ?hq ?_); (case hq => walk_at "hk"))
  | ((with_reducible refine' x_catT ?hq ?hr ?n1 ?n2 ?hl ?_); (case hq => walk_at "hk"); (case hr => walk_at "hk"); (case n1 => exact List.cons_ne_nil _ _); (case n2 => exact List.cons_ne_nil _ _); (case hl => exact Nat.le_of_ble_eq_true rfl))
  | ((with_reducible refine x_bm ?_))
  | ((with_reducible refine x_lstRg ?_))
  | ((with_reducible refine x_rg1 ?_))
  | ((with_reducible refine And.intro ?h ?_); (case h => exact tyL (by assumption)))
  | dsimp only)
local macro_rules | `(tactic| walk_at "use") => `(tactic| fail)
local macro_rules | `(tactic| walk_at "rd") => `(tactic| repeat' (walk_at "rd1"))
local macro_rules | `(tactic| walk_at "ex") => `(tactic| first | exact Ex.refl _ | assumption | (refine' Ex.trans ?he (by assumption); (case he => walk_at "ex")))
local macro_rules | `(tactic| walk_at "rd1") => `(tactic| first
  | ((with_reducible refine x_iteDf ?h ?_); (case h => exact rfl))
  | ((with_reducible refine x_iteDt ?h ?_); (case h => exact rfl))
  | ((with_reducible refine x_iteNf ?h ?_); (case h => exact rfl))
  | ((with_reducible refine x_iteNt ?h ?_); (case h => exact rfl))
  | ((with_reducible refine x_isiI (r := true) ?h ?_); (case h => decide +kernel))
  | ((with_reducible refine x_isiI (r := false) ?h ?_); (case h => decide +kernel))
  | ((with_reducible refine x_isiS (r := true) ?h ?_); (case h => decide +kernel))
  | ((with_reducible refine x_isiS (r := false) ?h ?_); (case h => decide +kernel))
  | ((with_reducible refine x_isiB (r := true) ?h ?_); (case h => decide +kernel))
  | ((with_reducible refine x_isiB (r := false) ?h ?_); (case h => decide +kernel))
  | ((with_reducible refine' x_isiT (r := true) ?hp ?h ?_); (case hp => walk_at "hk"); (case h => decide +kernel))
  | ((with_reducible refine' x_isiT (r := false) ?hp ?h ?_); (case hp => walk_at "hk"); (case h => decide +kernel))
  | ((with_reducible refine' x_isiL (r := true) ?hp ?h ?_); (case hp => walk_at "hk"); (case h => decide +kernel))
  | ((with_reducible refine' x_isiL (r := false) ?hp ?h ?_); (case hp => walk_at "hk"); (case h => decide +kernel))
  | ((with_reducible refine' x_isi2L ?hp ?hl ?_); (case hp => walk_at "hk"); (case hl => walk_at "hk"))
  | ((with_reducible refine' x_isi2T ?hp ?hl ?_); (case hp => walk_at "hk"); (case hl => walk_at "hk"))
  | ((with_reducible refine' x_tupOfL ?hq ?_); (case hq => walk_at "hk"))
  | ((with_reducible refine' x_tupOfT ?hq ?_); (case hq => walk_at "hk"))
  | ((with_reducible refine x_lenS ?h ?_); (case h => exact Nat.le_of_ble_eq_true rfl))
  | ((with_reducible refine' x_all ?hq ?_); (case hq => walk_at "hk"))
  | with_reducible refine x_lenSet ?_)
local macro_rules | `(tactic| walk_at "nb") => `(tactic| first | exact NB.xd | exact NB.dK)
local macro_rules | `(tactic| walk_at "rd1") => `(tactic| first
  | with_reducible refine Er.x_par3 ?_
  | with_reducible refine Er.x_ex_3 ?_
  | with_reducible refine Er.x_revL0 ?_
  | ((with_reducible refine' Er.x_revL ?hq ?_); (case hq => walk_at "hk"))
  | with_reducible refine Er.x_dget2 ?_
  | with_reducible refine x_dict0 ?_
  | ((with_reducible refine x_pow ?hc ?_); (case hc => exact ⟨by decide, by decide, by decide⟩))
  | ((with_reducible refine And.intro ?h ?_); (case h => exact tyL (by walk_at "hk")))
  | ((with_reducible refine' Er.x_dis ?hq ?_); (case hq => walk_at "hk"))
  | ((with_reducible refine' Er.x_dgo ?hq ?he ?_); (case hq => walk_at "hk"); (case he => exact rfl)))
local macro_rules | `(tactic| walk_at "rd1") => `(tactic| first
  | with_reducible refine Er.x_callSS ?_
  | ((with_reducible refine Er.x_mulS2 ?h ?h0 ?h1 ?_); (case h => decide); (case h0 => decide); (case h1 => decide)))
local macro_rules | `(tactic| walk_at "rd1") => `(tactic| first
  | with_reducible refine Er.x_iR2 ?_
  | with_reducible refine Er.x_iEn ?_
  | with_reducible refine Er.x_cont ?_
  | ((with_reducible refine Er.x_isBt ?h ?_); (case h => exact rfl))
  | ((with_reducible refine Er.x_isBf ?h ?_); (case h => exact rfl))
  | ((with_reducible refine Er.x_isNBt ?h ?_); (case h => exact rfl))
  | ((with_reducible refine Er.x_isNBf ?h ?_); (case h => exact rfl))
  | with_reducible refine Er.x_isB ?_
  | with_reducible refine Er.x_isNB ?_)
local macro_rules | `(tactic| walk_at "nb") => `(tactic| exact NB.dT)
local macro_rules | `(tactic| walk_at "rd1") => `(tactic| first
  | with_reducible refine Er.x_dNotIn ?_
  | with_reducible refine Er.x_dPut ?_
  | with_reducible refine Er.x_dnewT ?_)

def top (i : Nat) : Stmt := PySem.Challenge.pw_pupilpairs_k10_errors_apart.main.body.getD i (.Pass ⟨0, 0, 0, 0⟩)
abbrev s_Lbag : Stmt := top 21
theorem sc_Lbag : FnScope ["_law_script", "_law_cell"] ["_law_script"] (defScope s_Lbag) := ⟨rfl, rfl, rfl, by decide +kernel, rfl, by decide +kernel, by decide +kernel⟩
abbrev s_Ltake : Stmt := top 22
theorem sc_Ltake : FnScope ["_law_bag_here", "_law_many", "_law_cell", "_law_mixed", "_law_drawn", "_law_begin", "_law_second"] ["_law_bag_here", "_law_many"] (defScope s_Ltake) := ⟨rfl, rfl, rfl, by decide +kernel, rfl, by decide +kernel, by decide +kernel⟩
abbrev s_Lone : Stmt := top 23
theorem sc_Lone : FnScope ["_law_bag_here", "_law_some"] ["_law_bag_here", "_law_some"] (defScope s_Lone) := ⟨rfl, rfl, rfl, by decide +kernel, rfl, by decide +kernel, by decide +kernel⟩
abbrev s_Lvalue : Stmt := top 24
theorem sc_Lvalue : FnScope ["_law_bag_here", "_law_menu"] ["_law_bag_here"] (defScope s_Lvalue) := ⟨rfl, rfl, rfl, by decide +kernel, rfl, by decide +kernel, by decide +kernel⟩
abbrev s_Lerrors : Stmt := top 25
theorem sc_Lerrors : FnScope ["_law_x", "_law_y", "_law_found"] ["_law_x", "_law_y"] (defScope s_Lerrors) := ⟨rfl, rfl, rfl, by decide +kernel, rfl, by decide +kernel, by decide +kernel⟩
abbrev s_Lflags : Stmt := top 26
theorem sc_Lflags : FnScope ["_law_e", "_law_found"] ["_law_e"] (defScope s_Lflags) := ⟨rfl, rfl, rfl, by decide +kernel, rfl, by decide +kernel, by decide +kernel⟩
abbrev s_Lfields : Stmt := top 27
theorem sc_Lfields : FnScope ["_law_some", "_law_found"] ["_law_some"] (defScope s_Lfields) := ⟨rfl, rfl, rfl, by decide +kernel, rfl, by decide +kernel, by decide +kernel⟩
abbrev s_law : Stmt := top 28
theorem sc_law : FnScope ["_law_script", "_law_bag_here", "_law_turn", "_law_x", "_law_y", "_law_some", "_law_thing", "_law_at", "_law_e", "_law_k"] ["_law_script"] (defScope s_law) := ⟨rfl, rfl, rfl, by decide +kernel, rfl, by decide +kernel, by decide +kernel⟩
abbrev s_Wrong_init : Stmt := inClass (top 2) 0
theorem sc_Wrong_init : FnScope ["self", "place"] ["self", "place"] (defScope s_Wrong_init) := ⟨rfl, rfl, rfl, by decide +kernel, rfl, by decide +kernel, by decide +kernel⟩
abbrev s_NoCall_init : Stmt := inClass (top 3) 0
theorem sc_NoCall_init : FnScope ["self", "thing"] ["self", "thing"] (defScope s_NoCall_init) := ⟨rfl, rfl, rfl, by decide +kernel, rfl, by decide +kernel, by decide +kernel⟩
abbrev s_NoPlace_init : Stmt := inClass (top 5) 0
theorem sc_NoPlace_init : FnScope ["self", "place"] ["self", "place"] (defScope s_NoPlace_init) := ⟨rfl, rfl, rfl, by decide +kernel, rfl, by decide +kernel, by decide +kernel⟩
abbrev s_NoPupil_init : Stmt := inClass (top 6) 0
theorem sc_NoPupil_init : FnScope ["self", "pupil"] ["self", "pupil"] (defScope s_NoPupil_init) := ⟨rfl, rfl, rfl, by decide +kernel, rfl, by decide +kernel, by decide +kernel⟩
abbrev s_NoWish_init : Stmt := inClass (top 8) 0
theorem sc_NoWish_init : FnScope ["self", "wish"] ["self", "wish"] (defScope s_NoWish_init) := ⟨rfl, rfl, rfl, by decide +kernel, rfl, by decide +kernel, by decide +kernel⟩
abbrev s_NoStep_init : Stmt := inClass (top 9) 0
theorem sc_NoStep_init : FnScope ["self", "step"] ["self", "step"] (defScope s_NoStep_init) := ⟨rfl, rfl, rfl, by decide +kernel, rfl, by decide +kernel, by decide +kernel⟩
abbrev s_NoClaim_init : Stmt := inClass (top 10) 0
theorem sc_NoClaim_init : FnScope ["self", "claim"] ["self", "claim"] (defScope s_NoClaim_init) := ⟨rfl, rfl, rfl, by decide +kernel, rfl, by decide +kernel, by decide +kernel⟩
abbrev s_NoRow_init : Stmt := inClass (top 11) 0
theorem sc_NoRow_init : FnScope ["self", "row"] ["self", "row"] (defScope s_NoRow_init) := ⟨rfl, rfl, rfl, by decide +kernel, rfl, by decide +kernel, by decide +kernel⟩
abbrev s_NoOrder_init : Stmt := inClass (top 12) 0
theorem sc_NoOrder_init : FnScope ["self", "base", "modulus"] ["self", "base", "modulus"] (defScope s_NoOrder_init) := ⟨rfl, rfl, rfl, by decide +kernel, rfl, by decide +kernel, by decide +kernel⟩
abbrev s_NoArrangement_init : Stmt := inClass (top 13) 0
theorem sc_NoArrangement_init : FnScope ["self", "thing"] ["self", "thing"] (defScope s_NoArrangement_init) := ⟨rfl, rfl, rfl, by decide +kernel, rfl, by decide +kernel, by decide +kernel⟩
abbrev s_Full_init : Stmt := inClass (top 14) 0
theorem sc_Full_init : FnScope ["self", "limit"] ["self", "limit"] (defScope s_Full_init) := ⟨rfl, rfl, rfl, by decide +kernel, rfl, by decide +kernel, by decide +kernel⟩
abbrev s_Away_init : Stmt := inClass (top 16) 0
theorem sc_Away_init : FnScope ["self", "pupil"] ["self", "pupil"] (defScope s_Away_init) := ⟨rfl, rfl, rfl, by decide +kernel, rfl, by decide +kernel, by decide +kernel⟩
abbrev s_There_init : Stmt := inClass (top 17) 0
theorem sc_There_init : FnScope ["self", "pupil"] ["self", "pupil"] (defScope s_There_init) := ⟨rfl, rfl, rfl, by decide +kernel, rfl, by decide +kernel, by decide +kernel⟩
structure Ad where
  a_Lbag : Addr
  fd_Lbag : FuncData
  a_Ltake : Addr
  fd_Ltake : FuncData
  a_Lone : Addr
  fd_Lone : FuncData
  a_Lvalue : Addr
  fd_Lvalue : FuncData
  a_Lerrors : Addr
  fd_Lerrors : FuncData
  a_Lflags : Addr
  fd_Lflags : FuncData
  a_Lfields : Addr
  fd_Lfields : FuncData
  a_law : Addr
  fd_law : FuncData
  a_Wrong_init : Addr
  fd_Wrong_init : FuncData
  a_NoCall_init : Addr
  fd_NoCall_init : FuncData
  a_NoPlace_init : Addr
  fd_NoPlace_init : FuncData
  a_NoPupil_init : Addr
  fd_NoPupil_init : FuncData
  a_NoWish_init : Addr
  fd_NoWish_init : FuncData
  a_NoStep_init : Addr
  fd_NoStep_init : FuncData
  a_NoClaim_init : Addr
  fd_NoClaim_init : FuncData
  a_NoRow_init : Addr
  fd_NoRow_init : FuncData
  a_NoOrder_init : Addr
  fd_NoOrder_init : FuncData
  a_NoArrangement_init : Addr
  fd_NoArrangement_init : FuncData
  a_Full_init : Addr
  fd_Full_init : FuncData
  a_Away_init : Addr
  fd_Away_init : FuncData
  a_There_init : Addr
  fd_There_init : FuncData
  c_PupilError : Addr
  c_Wrong : Addr
  c_NoCall : Addr
  c_Unlike : Addr
  c_NoPlace : Addr
  c_NoPupil : Addr
  c_Open : Addr
  c_NoWish : Addr
  c_NoStep : Addr
  c_NoClaim : Addr
  c_NoRow : Addr
  c_NoOrder : Addr
  c_NoArrangement : Addr
  c_Full : Addr
  c_Nothing : Addr
  c_Away : Addr
  c_There : Addr
  c_NoText : Addr
  c_NoCommand : Addr
structure Txt (K : PySem.W.Frag) (w : World) (mg : Str → Option Value) (a : Ad) : Prop where
  m_Lbag : mg "_law_bag" = some (.ref a.a_Lbag)
  F_Lbag : Fun K "_law_bag" "_law_bag" s_Lbag a.a_Lbag a.fd_Lbag
  k_Lbag : PySem.W.keepIn K (.ref a.a_Lbag) = true
  b_Lbag : Binds K a.fd_Lbag ["_law_script"] []
  m_Ltake : mg "_law_take" = some (.ref a.a_Ltake)
  F_Ltake : Fun K "_law_take" "_law_take" s_Ltake a.a_Ltake a.fd_Ltake
  k_Ltake : PySem.W.keepIn K (.ref a.a_Ltake) = true
  b_Ltake : Binds K a.fd_Ltake ["_law_bag_here", "_law_many"] []
  m_Lone : mg "_law_one" = some (.ref a.a_Lone)
  F_Lone : Fun K "_law_one" "_law_one" s_Lone a.a_Lone a.fd_Lone
  k_Lone : PySem.W.keepIn K (.ref a.a_Lone) = true
  b_Lone : Binds K a.fd_Lone ["_law_bag_here", "_law_some"] []
  m_Lvalue : mg "_law_value" = some (.ref a.a_Lvalue)
  F_Lvalue : Fun K "_law_value" "_law_value" s_Lvalue a.a_Lvalue a.fd_Lvalue
  k_Lvalue : PySem.W.keepIn K (.ref a.a_Lvalue) = true
  b_Lvalue : Binds K a.fd_Lvalue ["_law_bag_here"] []
  m_Lerrors : mg "_law_errors" = some (.ref a.a_Lerrors)
  F_Lerrors : Fun K "_law_errors" "_law_errors" s_Lerrors a.a_Lerrors a.fd_Lerrors
  k_Lerrors : PySem.W.keepIn K (.ref a.a_Lerrors) = true
  b_Lerrors : Binds K a.fd_Lerrors ["_law_x", "_law_y"] []
  m_Lflags : mg "_law_flags" = some (.ref a.a_Lflags)
  F_Lflags : Fun K "_law_flags" "_law_flags" s_Lflags a.a_Lflags a.fd_Lflags
  k_Lflags : PySem.W.keepIn K (.ref a.a_Lflags) = true
  b_Lflags : Binds K a.fd_Lflags ["_law_e"] []
  m_Lfields : mg "_law_fields" = some (.ref a.a_Lfields)
  F_Lfields : Fun K "_law_fields" "_law_fields" s_Lfields a.a_Lfields a.fd_Lfields
  k_Lfields : PySem.W.keepIn K (.ref a.a_Lfields) = true
  b_Lfields : Binds K a.fd_Lfields ["_law_some"] []
  m_law : mg "law" = some (.ref a.a_law)
  F_law : Fun K "law" "law" s_law a.a_law a.fd_law
  k_law : PySem.W.keepIn K (.ref a.a_law) = true
  b_law : Binds K a.fd_law ["_law_script"] []
  F_Wrong_init : Fun K "__init__" "Wrong.__init__" s_Wrong_init a.a_Wrong_init a.fd_Wrong_init
  k_Wrong_init : PySem.W.keepIn K (.ref a.a_Wrong_init) = true
  b_Wrong_init : Binds K a.fd_Wrong_init ["self", "place"] []
  F_NoCall_init : Fun K "__init__" "NoCall.__init__" s_NoCall_init a.a_NoCall_init a.fd_NoCall_init
  k_NoCall_init : PySem.W.keepIn K (.ref a.a_NoCall_init) = true
  b_NoCall_init : Binds K a.fd_NoCall_init ["self", "thing"] []
  F_NoPlace_init : Fun K "__init__" "NoPlace.__init__" s_NoPlace_init a.a_NoPlace_init a.fd_NoPlace_init
  k_NoPlace_init : PySem.W.keepIn K (.ref a.a_NoPlace_init) = true
  b_NoPlace_init : Binds K a.fd_NoPlace_init ["self", "place"] []
  F_NoPupil_init : Fun K "__init__" "NoPupil.__init__" s_NoPupil_init a.a_NoPupil_init a.fd_NoPupil_init
  k_NoPupil_init : PySem.W.keepIn K (.ref a.a_NoPupil_init) = true
  b_NoPupil_init : Binds K a.fd_NoPupil_init ["self", "pupil"] []
  F_NoWish_init : Fun K "__init__" "NoWish.__init__" s_NoWish_init a.a_NoWish_init a.fd_NoWish_init
  k_NoWish_init : PySem.W.keepIn K (.ref a.a_NoWish_init) = true
  b_NoWish_init : Binds K a.fd_NoWish_init ["self", "wish"] []
  F_NoStep_init : Fun K "__init__" "NoStep.__init__" s_NoStep_init a.a_NoStep_init a.fd_NoStep_init
  k_NoStep_init : PySem.W.keepIn K (.ref a.a_NoStep_init) = true
  b_NoStep_init : Binds K a.fd_NoStep_init ["self", "step"] []
  F_NoClaim_init : Fun K "__init__" "NoClaim.__init__" s_NoClaim_init a.a_NoClaim_init a.fd_NoClaim_init
  k_NoClaim_init : PySem.W.keepIn K (.ref a.a_NoClaim_init) = true
  b_NoClaim_init : Binds K a.fd_NoClaim_init ["self", "claim"] []
  F_NoRow_init : Fun K "__init__" "NoRow.__init__" s_NoRow_init a.a_NoRow_init a.fd_NoRow_init
  k_NoRow_init : PySem.W.keepIn K (.ref a.a_NoRow_init) = true
  b_NoRow_init : Binds K a.fd_NoRow_init ["self", "row"] []
  F_NoOrder_init : Fun K "__init__" "NoOrder.__init__" s_NoOrder_init a.a_NoOrder_init a.fd_NoOrder_init
  k_NoOrder_init : PySem.W.keepIn K (.ref a.a_NoOrder_init) = true
  b_NoOrder_init : Binds K a.fd_NoOrder_init ["self", "base", "modulus"] []
  F_NoArrangement_init : Fun K "__init__" "NoArrangement.__init__" s_NoArrangement_init a.a_NoArrangement_init a.fd_NoArrangement_init
  k_NoArrangement_init : PySem.W.keepIn K (.ref a.a_NoArrangement_init) = true
  b_NoArrangement_init : Binds K a.fd_NoArrangement_init ["self", "thing"] []
  F_Full_init : Fun K "__init__" "Full.__init__" s_Full_init a.a_Full_init a.fd_Full_init
  k_Full_init : PySem.W.keepIn K (.ref a.a_Full_init) = true
  b_Full_init : Binds K a.fd_Full_init ["self", "limit"] []
  F_Away_init : Fun K "__init__" "Away.__init__" s_Away_init a.a_Away_init a.fd_Away_init
  k_Away_init : PySem.W.keepIn K (.ref a.a_Away_init) = true
  b_Away_init : Binds K a.fd_Away_init ["self", "pupil"] []
  F_There_init : Fun K "__init__" "There.__init__" s_There_init a.a_There_init a.fd_There_init
  k_There_init : PySem.W.keepIn K (.ref a.a_There_init) = true
  b_There_init : Binds K a.fd_There_init ["self", "pupil"] []
  m_PupilError : mg "PupilError" = some (.ref a.c_PupilError)
  x_PupilError : Er.XC K a.c_PupilError
  x0_PupilError : PySem.W.excIn K a.c_PupilError [.type "ValueError", .type "Exception", .type "BaseException", .type "object"] "ValueError.__new__" = true
  m_Wrong : mg "Wrong" = some (.ref a.c_Wrong)
  x_Wrong : Er.XC K a.c_Wrong
  i_Wrong : PySem.W.findIn K (.ref a.c_Wrong) "__init__" = some (some (.ref a.a_Wrong_init))
  ti_Wrong : PySem.W.typeIn K (.ref a.a_Wrong_init) = some (.type "function")
  N_Wrong_place : PySem.W.findIn K (.ref a.c_Wrong) "place" = some none
  m_NoCall : mg "NoCall" = some (.ref a.c_NoCall)
  x_NoCall : Er.XC K a.c_NoCall
  i_NoCall : PySem.W.findIn K (.ref a.c_NoCall) "__init__" = some (some (.ref a.a_NoCall_init))
  ti_NoCall : PySem.W.typeIn K (.ref a.a_NoCall_init) = some (.type "function")
  N_NoCall_thing : PySem.W.findIn K (.ref a.c_NoCall) "thing" = some none
  m_Unlike : mg "Unlike" = some (.ref a.c_Unlike)
  x_Unlike : Er.XC K a.c_Unlike
  x0_Unlike : PySem.W.excIn K a.c_Unlike [.type "ValueError", .type "Exception", .type "BaseException", .type "object"] "ValueError.__new__" = true
  m_NoPlace : mg "NoPlace" = some (.ref a.c_NoPlace)
  x_NoPlace : Er.XC K a.c_NoPlace
  i_NoPlace : PySem.W.findIn K (.ref a.c_NoPlace) "__init__" = some (some (.ref a.a_NoPlace_init))
  ti_NoPlace : PySem.W.typeIn K (.ref a.a_NoPlace_init) = some (.type "function")
  N_NoPlace_place : PySem.W.findIn K (.ref a.c_NoPlace) "place" = some none
  m_NoPupil : mg "NoPupil" = some (.ref a.c_NoPupil)
  x_NoPupil : Er.XC K a.c_NoPupil
  i_NoPupil : PySem.W.findIn K (.ref a.c_NoPupil) "__init__" = some (some (.ref a.a_NoPupil_init))
  ti_NoPupil : PySem.W.typeIn K (.ref a.a_NoPupil_init) = some (.type "function")
  N_NoPupil_pupil : PySem.W.findIn K (.ref a.c_NoPupil) "pupil" = some none
  m_Open : mg "Open" = some (.ref a.c_Open)
  x_Open : Er.XC K a.c_Open
  x0_Open : PySem.W.excIn K a.c_Open [.type "ValueError", .type "Exception", .type "BaseException", .type "object"] "ValueError.__new__" = true
  m_NoWish : mg "NoWish" = some (.ref a.c_NoWish)
  x_NoWish : Er.XC K a.c_NoWish
  i_NoWish : PySem.W.findIn K (.ref a.c_NoWish) "__init__" = some (some (.ref a.a_NoWish_init))
  ti_NoWish : PySem.W.typeIn K (.ref a.a_NoWish_init) = some (.type "function")
  N_NoWish_wish : PySem.W.findIn K (.ref a.c_NoWish) "wish" = some none
  m_NoStep : mg "NoStep" = some (.ref a.c_NoStep)
  x_NoStep : Er.XC K a.c_NoStep
  i_NoStep : PySem.W.findIn K (.ref a.c_NoStep) "__init__" = some (some (.ref a.a_NoStep_init))
  ti_NoStep : PySem.W.typeIn K (.ref a.a_NoStep_init) = some (.type "function")
  N_NoStep_step : PySem.W.findIn K (.ref a.c_NoStep) "step" = some none
  m_NoClaim : mg "NoClaim" = some (.ref a.c_NoClaim)
  x_NoClaim : Er.XC K a.c_NoClaim
  i_NoClaim : PySem.W.findIn K (.ref a.c_NoClaim) "__init__" = some (some (.ref a.a_NoClaim_init))
  ti_NoClaim : PySem.W.typeIn K (.ref a.a_NoClaim_init) = some (.type "function")
  N_NoClaim_claim : PySem.W.findIn K (.ref a.c_NoClaim) "claim" = some none
  m_NoRow : mg "NoRow" = some (.ref a.c_NoRow)
  x_NoRow : Er.XC K a.c_NoRow
  i_NoRow : PySem.W.findIn K (.ref a.c_NoRow) "__init__" = some (some (.ref a.a_NoRow_init))
  ti_NoRow : PySem.W.typeIn K (.ref a.a_NoRow_init) = some (.type "function")
  N_NoRow_row : PySem.W.findIn K (.ref a.c_NoRow) "row" = some none
  m_NoOrder : mg "NoOrder" = some (.ref a.c_NoOrder)
  x_NoOrder : Er.XC K a.c_NoOrder
  i_NoOrder : PySem.W.findIn K (.ref a.c_NoOrder) "__init__" = some (some (.ref a.a_NoOrder_init))
  ti_NoOrder : PySem.W.typeIn K (.ref a.a_NoOrder_init) = some (.type "function")
  N_NoOrder_base : PySem.W.findIn K (.ref a.c_NoOrder) "base" = some none
  N_NoOrder_modulus : PySem.W.findIn K (.ref a.c_NoOrder) "modulus" = some none
  m_NoArrangement : mg "NoArrangement" = some (.ref a.c_NoArrangement)
  x_NoArrangement : Er.XC K a.c_NoArrangement
  i_NoArrangement : PySem.W.findIn K (.ref a.c_NoArrangement) "__init__" = some (some (.ref a.a_NoArrangement_init))
  ti_NoArrangement : PySem.W.typeIn K (.ref a.a_NoArrangement_init) = some (.type "function")
  N_NoArrangement_thing : PySem.W.findIn K (.ref a.c_NoArrangement) "thing" = some none
  m_Full : mg "Full" = some (.ref a.c_Full)
  x_Full : Er.XC K a.c_Full
  i_Full : PySem.W.findIn K (.ref a.c_Full) "__init__" = some (some (.ref a.a_Full_init))
  ti_Full : PySem.W.typeIn K (.ref a.a_Full_init) = some (.type "function")
  N_Full_limit : PySem.W.findIn K (.ref a.c_Full) "limit" = some none
  m_Nothing : mg "Nothing" = some (.ref a.c_Nothing)
  x_Nothing : Er.XC K a.c_Nothing
  x0_Nothing : PySem.W.excIn K a.c_Nothing [.type "ValueError", .type "Exception", .type "BaseException", .type "object"] "ValueError.__new__" = true
  m_Away : mg "Away" = some (.ref a.c_Away)
  x_Away : Er.XC K a.c_Away
  i_Away : PySem.W.findIn K (.ref a.c_Away) "__init__" = some (some (.ref a.a_Away_init))
  ti_Away : PySem.W.typeIn K (.ref a.a_Away_init) = some (.type "function")
  N_Away_pupil : PySem.W.findIn K (.ref a.c_Away) "pupil" = some none
  m_There : mg "There" = some (.ref a.c_There)
  x_There : Er.XC K a.c_There
  i_There : PySem.W.findIn K (.ref a.c_There) "__init__" = some (some (.ref a.a_There_init))
  ti_There : PySem.W.typeIn K (.ref a.a_There_init) = some (.type "function")
  N_There_pupil : PySem.W.findIn K (.ref a.c_There) "pupil" = some none
  m_NoText : mg "NoText" = some (.ref a.c_NoText)
  x_NoText : Er.XC K a.c_NoText
  x0_NoText : PySem.W.excIn K a.c_NoText [.type "ValueError", .type "Exception", .type "BaseException", .type "object"] "ValueError.__new__" = true
  m_NoCommand : mg "NoCommand" = some (.ref a.c_NoCommand)
  x_NoCommand : Er.XC K a.c_NoCommand
  x0_NoCommand : PySem.W.excIn K a.c_NoCommand [.type "ValueError", .type "Exception", .type "BaseException", .type "object"] "ValueError.__new__" = true
  kt : Er.ktab K [a.c_Wrong, a.c_NoCall, a.c_NoPlace, a.c_NoPupil, a.c_NoStep, a.c_NoClaim, a.c_NoRow, a.c_NoArrangement, a.c_Full, a.c_Away, a.c_There, a.c_NoOrder, a.c_Unlike, a.c_Open, a.c_Nothing, a.c_NoText, a.c_NoCommand, a.c_NoWish] = true
  ka_PupilError : Er.kall K [a.c_Wrong, a.c_NoCall, a.c_NoPlace, a.c_NoPupil, a.c_NoStep, a.c_NoClaim, a.c_NoRow, a.c_NoArrangement, a.c_Full, a.c_Away, a.c_There, a.c_NoOrder, a.c_Unlike, a.c_Open, a.c_Nothing, a.c_NoText, a.c_NoCommand, a.c_NoWish] (.ref a.c_PupilError) = true
  ka_VE : Er.kall K [a.c_Wrong, a.c_NoCall, a.c_NoPlace, a.c_NoPupil, a.c_NoStep, a.c_NoClaim, a.c_NoRow, a.c_NoArrangement, a.c_Full, a.c_Away, a.c_There, a.c_NoOrder, a.c_Unlike, a.c_Open, a.c_Nothing, a.c_NoText, a.c_NoCommand, a.c_NoWish] (.type "ValueError") = true
  n_len : mg "len" = none
  n_abs : mg "abs" = none
  n_int : mg "int" = none
  n_list : mg "list" = none
  n_range : mg "range" = none
  n_isinstance : mg "isinstance" = none
  n_dict : mg "dict" = none
  n_enumerate : mg "enumerate" = none
  n_ValueError : mg "ValueError" = none
end My

set_option Elab.async false
set_option linter.all false
set_option maxRecDepth 100000
set_option maxHeartbeats 8000000
namespace My
open PySem PySem.Spec PyProof.Rows L2 Sx
local macro_rules | `(tactic| walk_at "nb") => `(tactic| first | exact NB.tup | exact NB.ints | exact NB.len (of_decide_eq_true rfl) | exact NB.at0b rfl | exact NB.at3b rfl | exact NB.ins | exact NB.own | exact NB.frz | exact NB.refs (by assumption) | assumption)
local macro_rules | `(tactic| walk_at "ne") => `(tactic| first | assumption | exact Ne.symm (by assumption) | exact ne_of_none (by assumption) (by assumption) | exact Ne.symm (ne_of_none (by assumption) (by assumption)))
local macro_rules | `(tactic| walk_at "hk") => `(tactic| first
  | assumption
  | exact upd_same
  | (refine' (upd_ne ?hkne).trans ?hkq; (case hkne => walk_at "ne"); (case hkq => walk_at "hk"))
  | (refine' Ex.kp (by assumption) _ _ ?hkq ?hkn; (case hkq => walk_at "hk"); (case hkn => walk_at "nb")))
local macro_rules | `(tactic| walk_at "rd1") => `(tactic| first
  | ((with_reducible refine' x_var ?hx ?_); (case hx => exact rfl))
  | with_reducible refine x_c ?_
  | with_reducible refine x_op ?_
  | with_reducible refine x_un ?_
  | with_reducible refine x_I0 ?_
  | with_reducible refine x_U ?_
  | ((with_reducible refine x_I ?hc ?_); (case hc => first | exact (by decide : (0 : Int) < _) | (show (0 : Int) < _; omega) | (show CMul _ _; first | exact .inl ⟨by omega, by omega⟩ | exact .inr ⟨by omega, by omega⟩) | (show CDiv _ _; exact ⟨by omega, by omega⟩) | (show CDivW _ _; exact wide_div (b := 200) (by omega) (by assumption) (by decide) (by decide)) | (show CDivW _ _; exact wide_div (b := 31) (by omega) (by omega) (by decide) (by decide))))
  | with_reducible refine x_EqI ?_
  | with_reducible refine x_NeI ?_
  | ((with_reducible refine x_EqSt ?h ?_); (case h => decide +kernel))
  | ((with_reducible refine x_EqSf ?h ?_); (case h => decide +kernel))
  | ((with_reducible refine x_NeSt ?h ?_); (case h => decide +kernel))
  | ((with_reducible refine x_NeSf ?h ?_); (case h => decide +kernel))
  | with_reducible refine x_EqS ?_
  | with_reducible refine x_NeS ?_
  | ((with_reducible refine' x_ixL ?hq ?hi ?_); (case hq => walk_at "hk"); (case hi => first | exact rfl | assumption))
  | ((with_reducible refine' x_ixT ?hq ?hi ?_); (case hq => walk_at "hk"); (case hi => first | exact rfl | assumption))
  | with_reducible refine x_chain ?_
  | with_reducible refine x_tup ?_
  | with_reducible refine x_lst ?_
  | ((with_reducible refine x_lenNew ?hl ?_); (case hl => exact Nat.le_of_ble_eq_true rfl); intro _ _ _ _ _)
  | ((with_reducible refine x_new ?_); intro _ _ _ _ _)
  | with_reducible refine x_sl ?_
  | with_reducible refine x_noPart ?_
  | with_reducible refine x_part ?_
  | with_reducible refine x_ex_int ?_
  | with_reducible refine x_ex_bl ?_
  | with_reducible refine x_ex_2 ?_
  | with_reducible refine x_test ?_
  | with_reducible refine x_B ?_
  | with_reducible refine x_and ?_
  | with_reducible refine x_or ?_
  | with_reducible refine x_not ?_
  | with_reducible refine x_andV ?_
  | with_reducible refine x_orV ?_
  | with_reducible refine x_notV ?_
  | with_reducible refine x_ifE ?_
  | with_reducible refine x_iteT ?_
  | with_reducible refine x_iteF ?_
  | ((with_reducible refine x_iteD ?_ ?_) <;> intro _)
  | ((with_reducible refine x_iteN ?_ ?_) <;> intro _)
  | with_reducible refine x_if ?_
  | with_reducible refine x_seq ?_
  | with_reducible refine x_next ?_
  | with_reducible refine x_asg ?_
  | with_reducible refine x_gName ?_
  | ((with_reducible refine' x_gTup ?hq ?hn ?_); (case hq => walk_at "hk"); (case hn => exact rfl))
  | with_reducible refine x_gCons ?_
  | with_reducible refine x_gNil ?_
  | ((with_reducible refine' x_gConsE ?h ?_); (case h => exact rfl))
  | ((with_reducible refine x_gNilE ?h ?_); (case h => exact rfl))
  | with_reducible refine x_ret ?_
  | with_reducible refine x_drop ?_
  | with_reducible refine x_par ?_
  | ((with_reducible refine' x_aug ?hx ?_); (case hx => exact rfl))
  | with_reducible refine x_ipI ?_
  | with_reducible refine x_augS ?_
  | with_reducible refine x_gSub ?_
  | ((with_reducible refine' x_setL ?hq ?hi ?_); (case hq => walk_at "hk"); (case hi => first | exact rfl | assumption))
  | with_reducible refine x_cons ?_
  | with_reducible refine x_nil ?_
  | with_reducible refine x_CB ?_
  | with_reducible refine x_abs ?_
  | with_reducible refine x_intI ?_
  | with_reducible refine x_intB ?_
  | ((with_reducible refine' x_lenL ?hq ?_); (case hq => walk_at "hk"))
  | ((with_reducible refine' x_lenT ?hq ?_); (case hq => walk_at "hk"))
  | ((with_reducible refine x_iteTe ?h ?_); (case h => exact rfl))
  | ((with_reducible refine x_iteFe ?h ?_); (case h => exact rfl))
  | walk_at "use"
  | with_reducible refine x_callS ?_
  | ((with_reducible refine x_lc ?_))
  | ((with_reducible refine x_for ?_))
  | ((with_reducible refine x_iR1 ?_))
  | ((with_reducible refine x_iL ?_))
  | ((with_reducible refine x_iZ ?_))
  | ((with_reducible refine x_yes ?_))
  | ((with_reducible refine' x_NIDt ?hq ?_); (case hq => assumption))
  | ((with_reducible refine' x_NIDf ?hq ?_); (case hq => assumption))
  | ((with_reducible refine' x_IIDf ?hq ?_); (case hq => assumption))
  | ((with_reducible refine' x_IIDt ?hq ?_); (case hq => assumption))
  | ((with_reducible refine' x_ixDs ?hd ?hq ?_); (case hd => assumption); (case hq => assumption))
  | ((with_reducible refine x_InSt ?h ?_); (case h => decide +kernel))
  | ((with_reducible refine x_InSf ?h ?_); (case h => decide +kernel))
  | ((with_reducible refine' x_notInI ?hq ?_); (case hq => walk_at "hk"))
  | ((with_reducible refine' x_inTt ?hq ?hv ?ha ?he ?_); (case hq => walk_at "hk"); (case hv => exact rfl); (case ha => exact rfl); (case he => decide +kernel))
  | ((with_reducible refine' x_inTf ?hq ?hv ?ha ?he ?_); (case hq => walk_at "hk"); (case hv => exact rfl); (case ha => exact rfl); (case he => decide +kernel))
  | ((with_reducible refine' x_slT ?hq ?hw ?_); (case hq => walk_at "hk"); (case hw => with_unfolding_all exact of_decide_eq_true rfl))
  | ((with_reducible refine' x_slL ?hq ?_); (case hq => walk_at "hk"))
  | ((with_reducible refine' x_catT ?hq ?hr ?n1 ?n2 ?hl ?_); (case hq => walk_at "hk"); (case hr => walk_at "hk"); (case n1 => exact List.cons_ne_nil _ _); (case n2 => exact List.cons_ne_nil _ _); (case hl => exact Nat.le_of_ble_eq_true rfl))
  | ((with_reducible refine x_bm ?_))
  | ((with_reducible refine x_lstRg ?_))
  | ((with_reducible refine x_rg1 ?_))
  | ((with_reducible refine And.intro ?h ?_); (case h => exact tyL (by assumption)))
  | dsimp only)
local macro_rules | `(tactic| walk_at "use") => `(tactic| fail)
local macro_rules | `(tactic| walk_at "rd") => `(tactic| repeat' (walk_at "rd1"))
local macro_rules | `(tactic| walk_at "ex") => `(tactic| first | exact Ex.refl _ | assumption | (refine' Ex.trans ?he (by assumption); (case he => walk_at "ex")))
local macro_rules | `(tactic| walk_at "rd1") => `(tactic| first
  | ((with_reducible refine x_iteDf ?h ?_); (case h => exact rfl))
  | ((with_reducible refine x_iteDt ?h ?_); (case h => exact rfl))
  | ((with_reducible refine x_iteNf ?h ?_); (case h => exact rfl))
  | ((with_reducible refine x_iteNt ?h ?_); (case h => exact rfl))
  | ((with_reducible refine x_isiI (r := true) ?h ?_); (case h => decide +kernel))
  | ((with_reducible refine x_isiI (r := false) ?h ?_); (case h => decide +kernel))
  | ((with_reducible refine x_isiS (r := true) ?h ?_); (case h => decide +kernel))
  | ((with_reducible refine x_isiS (r := false) ?h ?_); (case h => decide +kernel))
  | ((with_reducible refine x_isiB (r := true) ?h ?_); (case h => decide +kernel))
  | ((with_reducible refine x_isiB (r := false) ?h ?_); (case h => decide +kernel))
  | ((with_reducible refine' x_isiT (r := true) ?hp ?h ?_); (case hp => walk_at "hk"); (case h => decide +kernel))
  | ((with_reducible refine' x_isiT (r := false) ?hp ?h ?_); (case hp => walk_at "hk"); (case h => decide +kernel))
  | ((with_reducible refine' x_isiL (r := true) ?hp ?h ?_); (case hp => walk_at "hk"); (case h => decide +kernel))
  | ((with_reducible refine' x_isiL (r := false) ?hp ?h ?_); (case hp => walk_at "hk"); (case h => decide +kernel))
  | ((with_reducible refine' x_isi2L ?hp ?hl ?_); (case hp => walk_at "hk"); (case hl => walk_at "hk"))
  | ((with_reducible refine' x_isi2T ?hp ?hl ?_); (case hp => walk_at "hk"); (case hl => walk_at "hk"))
  | ((with_reducible refine' x_tupOfL ?hq ?_); (case hq => walk_at "hk"))
  | ((with_reducible refine' x_tupOfT ?hq ?_); (case hq => walk_at "hk"))
  | ((with_reducible refine x_lenS ?h ?_); (case h => exact Nat.le_of_ble_eq_true rfl))
  | ((with_reducible refine' x_all ?hq ?_); (case hq => walk_at "hk"))
  | with_reducible refine x_lenSet ?_)
local macro_rules | `(tactic| walk_at "nb") => `(tactic| first | exact NB.xd | exact NB.dK)
local macro_rules | `(tactic| walk_at "rd1") => `(tactic| first
  | with_reducible refine Er.x_par3 ?_
  | with_reducible refine Er.x_ex_3 ?_
  | with_reducible refine Er.x_revL0 ?_
  | ((with_reducible refine' Er.x_revL ?hq ?_); (case hq => walk_at "hk"))
  | with_reducible refine Er.x_dget2 ?_
  | with_reducible refine x_dict0 ?_
  | ((with_reducible refine x_pow ?hc ?_); (case hc => exact ⟨by decide, by decide, by decide⟩))
  | ((with_reducible refine And.intro ?h ?_); (case h => exact tyL (by walk_at "hk")))
  | ((with_reducible refine' Er.x_dis ?hq ?_); (case hq => walk_at "hk"))
  | ((with_reducible refine' Er.x_dgo ?hq ?he ?_); (case hq => walk_at "hk"); (case he => exact rfl)))
local macro_rules | `(tactic| walk_at "rd1") => `(tactic| first
  | with_reducible refine Er.x_callSS ?_
  | ((with_reducible refine Er.x_mulS2 ?h ?h0 ?h1 ?_); (case h => decide); (case h0 => decide); (case h1 => decide)))
local macro_rules | `(tactic| walk_at "rd1") => `(tactic| first
  | with_reducible refine Er.x_iR2 ?_
  | with_reducible refine Er.x_iEn ?_
  | with_reducible refine Er.x_cont ?_
  | ((with_reducible refine Er.x_isBt ?h ?_); (case h => exact rfl))
  | ((with_reducible refine Er.x_isBf ?h ?_); (case h => exact rfl))
  | ((with_reducible refine Er.x_isNBt ?h ?_); (case h => exact rfl))
  | ((with_reducible refine Er.x_isNBf ?h ?_); (case h => exact rfl))
  | with_reducible refine Er.x_isB ?_
  | with_reducible refine Er.x_isNB ?_)
local macro_rules | `(tactic| walk_at "nb") => `(tactic| exact NB.dT)
local macro_rules | `(tactic| walk_at "rd1") => `(tactic| first
  | with_reducible refine Er.x_dNotIn ?_
  | with_reducible refine Er.x_dPut ?_
  | with_reducible refine Er.x_dnewT ?_)

local macro_rules | `(tactic| walk_at "bg") => `(tactic| first | assumption | exact Ex.bag (by assumption) (by walk_at "bg"))
section
variable {P : Program} {w : World} {K : PySem.W.Frag} {mg : Str → Option Value} {base : Heap} {a : Ad} {H H1 H' : Hp} {Q : VK} {E : XK} {p b s : Addr} {q : C}
/-! the draws -/
def sp_Ltake : Sp := fun vs H Q _ => ∃ (b : Addr) (m : Int), vs = [.ref b, .int m] ∧ Bag b H ∧ 0 < m ∧ m < 1073741824 ∧ ∀ d H1, Ex H H1 → 0 ≤ d → d < m → Q (.int d) H1
theorem u_Ltake {m : Int} (hb : Bag b H) (h0 : 0 < m) (h1 : m < 1073741824) (k : ∀ d H1, Ex H H1 → 0 ≤ d → d < m → Q (.int d) H1) : sp_Ltake [.ref b, .int m] H Q E := ⟨b, m, rfl, hb, h0, h1, k⟩
theorem ok_Ltake (T : Txt K w mg a) : FnOk P w K mg base CX0 1 a.a_Ltake a.fd_Ltake ["_law_bag_here", "_law_many"] sp_Ltake := by
  refine T.F_Ltake.ok sc_Ltake (fun vs H Q E h => ?_) (fun cdv A outer s H vs Q E hr h => ?_)
  · obtain ⟨b, m, rfl, _⟩ := h; rfl
  · obtain ⟨b, m, rfl, ⟨c, ⟨x, y, z, ns, hb, hc, hx, hy, hy2, hz⟩⟩, hm, hm2, k⟩ := h
    have hcb : c ≠ b := ne_of hc hb (NB.ints x y z c)
    have fin : ∀ (H1 : Hp) (v x' y' z' : Int), (∀ a, a ≠ b → H1 a = H a) → H1 b = some (.lst [.int x', .int y', .int z', .ref c]) → 0 ≤ x' → 0 ≤ y' → y' < 2147483647 → 0 ≤ z' → Q (.int (v % m)) H1 := by
      intro H1 v x' y' z' s1 s2 s3 s4 s5 s6
      exact k _ _ (Ex.bagTo hb s1 s2 s3 s4 s5 s6) (Int.emod_nonneg _ (by omega)) (Int.emod_lt_of_pos _ hm)
    refine ⟨_, (pss_cons (ps_if (pt_cmpR op_eq (pe_ix ix_list (pv 0) pe_int (fun _ _ => rfl)) pe_int (nomark _)) (pss_cons (ps_set (i := 2) sc_Ltake.nd rfl (Or.inl rfl) pe_int)
      (pss_cons (ps_if (pt_cmpR op_lt (pe_ix ix_list (pv 0) pe_int (fun _ _ => rfl)) (pe_callB c_len (by rfl) T.n_len PySem.boot_len (pa_cons (pe_ix ix_list (pv 0) pe_int (fun _ _ => rfl)) pa_nil)) (nomark _)) (pss_one (ps_set (i := 2) sc_Ltake.nd rfl (Or.inl rfl) (pe_ix ix_list (pe_ix ix_list (pv 0) pe_int (fun _ _ => rfl)) (pe_ix ix_list (pv 0) pe_int (fun _ _ => rfl)) (fun _ _ => rfl)))) pss_nil)
      (pss_cons (ps_augS (pv 0) pe_int get_list pe_int ip_add set_list)
      (pss_cons (ps_if (pt_cmpR op_ge (pv 2) pe_int (nomark _)) (pss_one (ps_asg (pv 2) (pg_sub (pv 0) pe_int set_list))) pss_nil)
      (pss_cons (ps_set (i := 3) sc_Ltake.nd rfl (Or.inl rfl) (pe_op op_add (pe_op op_add (pe_op op_mul (pe_ix ix_list (pv 0) pe_int (fun _ _ => rfl)) pe_int) (pe_op op_mod (pe_callTy c_int (by rfl) T.n_int (by decide +kernel) (pa_cons (pv 2) pa_nil)) pe_int)) (pe_op op_mul pe_int (pe_ix ix_list (pv 0) pe_int (fun _ _ => rfl)))))
      (pss_one (ps_asg (pe_op op_mod (pe_callTy c_int (by rfl) T.n_int (by decide +kernel) (pa_cons (pv 3) pa_nil)) pe_int) (pg_sub (pv 0) pe_int set_list)))))))) pss_nil)
      (pss_cons (ps_if (pt_cmpR op_gt (pe_ix ix_list (pv 0) pe_int (fun _ _ => rfl)) pe_int (nomark _)) (pss_cons (ps_set (i := 4) sc_Ltake.nd rfl (Or.inl rfl) (pe_op op_mod (pe_callTy c_int (by rfl) T.n_int (by decide +kernel) (pa_cons (pe_ix ix_list (pv 0) pe_int (fun _ _ => rfl)) pa_nil)) (pv 1)))
      (pss_cons (ps_asg (pe_op op_fdivW (pe_callTy c_int (by rfl) T.n_int (by decide +kernel) (pa_cons (pe_ix ix_list (pv 0) pe_int (fun _ _ => rfl)) pa_nil)) (pv 1)) (pg_sub (pv 0) pe_int set_list))
      (pss_one (ps_ret (pv 4))))) pss_nil)
      (pss_cons (ps_set (i := 5) sc_Ltake.nd rfl (Or.inl rfl) (pe_op op_mod (pe_callTy c_int (by rfl) T.n_int (by decide +kernel) (pa_cons (pe_op op_mul (pe_op op_add (pe_ix ix_list (pv 0) pe_int (fun _ _ => rfl)) pe_int) pe_int) pa_nil)) pe_int))
      (pss_cons (ps_set (i := 6) sc_Ltake.nd rfl (Or.inl rfl) (pe_op op_mod (pe_callTy c_int (by rfl) T.n_int (by decide +kernel) (pa_cons (pe_op op_mul (pe_op op_mod (pe_callTy c_int (by rfl) T.n_int (by decide +kernel) (pa_cons (pe_op op_mul (pv 5) (pv 5)) pa_nil)) pe_int) pe_int) pa_nil)) pe_int))
      (pss_one (ps_ret (pe_op op_mod (pe_callTy c_int (by rfl) T.n_int (by decide +kernel) (pa_cons (pe_op op_fdiv (pv 6) pe_int) pa_nil)) (pv 1)))))))), ?_⟩
    walk_at "rd"
    rotate_left
    all_goals try (exfalso; omega)
    rotate_right
    · rename_i hlt
      obtain ⟨n, hn⟩ := at_map (ns := ns) hz hlt
      refine x_ixL hc hn ?_
      walk_at "rd"
      all_goals try (exfalso; omega)
      all_goals try exact fin _ _ _ _ _ (fun a n => by simp only [upd, if_neg n]) (by first | exact hb | exact upd_same) (by first | omega | exact Int.ediv_nonneg (by omega) (by omega)) (by omega) (by omega) (by omega)
    all_goals try (exfalso; omega)
    all_goals try exact fin _ _ _ _ _ (fun a n => by simp only [upd, if_neg n]) (by first | exact hb | exact upd_same) (by first | omega | exact Int.ediv_nonneg (by omega) (by omega)) (by omega) (by omega) (by omega)
local macro_rules | `(tactic| walk_at "use") => `(tactic| ((with_reducible refine' u_Ltake ?hb ?h0 ?h1 ?_); (case hb => walk_at "bg"); (case h0 => omega); (case h1 => omega); intro _ _ _ _ _))
theorem x_slLq {xs : List V} {lo hi : Option Int} (h : SqL K H s xs) (k : JustNew (.lst (cutV xs lo hi)) H Q) : rSlL K (.ref s) lo hi H Q := ⟨s, xs, rfl, h, k⟩
theorem cut_ints (ns : List Int) (lo hi : Option Int) : ∃ ms : List Int, cutV (ns.map V.int) lo hi = ms.map V.int ∧ ms.length ≤ ns.length := by
  refine ⟨(ns.drop (HT.sIx (ns.map V.int).length 0 lo)).take (HT.sIx (ns.map V.int).length (ns.map V.int).length hi - HT.sIx (ns.map V.int).length 0 lo), ?_, ?_⟩
  · unfold cutV
    rw [List.map_take, List.map_drop]
  · rw [List.length_take, List.length_drop]
    omega
def sp_Lbag (K : PySem.W.Frag) : Sp := fun vs H Q _ => ∃ (s : Addr) (ns : List Int), vs = [.ref s] ∧ SqL K H s (ns.map V.int) ∧ ns.length ≤ 63 ∧ ∀ b H1, Ex H H1 → Bag b H1 → Q (.ref b) H1
theorem u_Lbag {ns : List Int} (h : SqL K H s (ns.map V.int)) (hl : ns.length ≤ 63) (k : ∀ b H1, Ex H H1 → Bag b H1 → Q (.ref b) H1) : sp_Lbag K [.ref s] H Q E := ⟨s, ns, rfl, h, hl, k⟩
theorem ok_Lbag (T : Txt K w mg a) : FnOk P w K mg base CX0 1 a.a_Lbag a.fd_Lbag ["_law_script"] (sp_Lbag K) := by
  refine T.F_Lbag.ok sc_Lbag (fun vs H Q E h => ?_) (fun cdv A outer s H vs Q E hr h => ?_)
  · obtain ⟨s, ns, rfl, _⟩ := h; rfl
  · obtain ⟨s, ns, rfl, hs, hl, k⟩ := h
    refine ⟨_, (pss_one (ps_ret (pe_lst (pa_cons pe_int (pa_cons pe_int (pa_cons pe_int (pa_cons (pe_lc (own := [("_law_cell", 1)]) rfl sc_Lbag.nd (pi_list (pe_slice sl_list (pv 0) po_none (po_some pe_int))) (blkOk_by (own := [("_law_cell", 1)]) (N := ["_law_script", "_law_cell"]) (sc := defScope s_Lbag) (by decide +kernel)) (fun _ _ _ _ _ => (pg_name (i := 1) sc_Lbag.nd rfl (Or.inl rfl) (Or.inr rfl))) (fun _ _ _ _ _ => pts_nil) (fun _ _ _ _ _ => (pe_callB c_abs (by rfl) T.n_abs (by decide +kernel) (pa_cons (pv 1) pa_nil)))) pa_nil))))))), ?_⟩
    walk_at "rd"
    refine x_slLq hs ?_
    walk_at "rd"
    rename_i p1 H1 e1 f1 h1
    obtain ⟨ms, em, lm⟩ := cut_ints ns none (some 63)
    rw [em] at h1
    refine lc_lst h1 NB.ints (fun i acc _ => (∃ ks : List Int, acc = ks.map V.int) ∧ acc.length = i ∧ i ≤ ms.length) ⟨⟨[], rfl⟩, rfl, Nat.zero_le _⟩ (fun _ _ _ _ _ h => h) (fun i acc _ h => ?_) (fun x => rfl) (fun i x acc H' hx e hI kk k1 k2 => ?_) (fun p ys H2 e hp hy hI => ?_)
    · obtain ⟨⟨ks, rfl⟩, h2, h3⟩ := h
      exact ⟨NB.ints, Nat.lt_of_le_of_lt (show _ ≤ 63 by omega) (by decide)⟩
    · rw [List.getElem?_map] at hx
      cases hx' : ms[i]? with
      | none => rw [hx'] at hx; cases hx
      | some n =>
        rw [hx'] at hx
        have en : V.int n = x := Option.some.inj hx
        subst en
        have hi := (List.getElem?_eq_some_iff.mp hx').1
        walk_at "rd"
        obtain ⟨⟨ks, rfl⟩, h2, h3⟩ := hI
        exact k1 _ _ (Ex.refl _) ⟨⟨ks ++ [if n < 0 then -n else n], by rw [List.map_append]; rfl⟩, by simp [h2], hi⟩
    · obtain ⟨⟨ks, rfl⟩, h2, h3⟩ := hI
      walk_at "rd"
      rename_i p3 H3 e3 f3 h3'
      exact k _ _ ((e1.trans e).trans e3) ⟨p, _, _, _, ks, h3', e3.kp _ _ hy NB.ints, by decide, by decide, by decide, by decide⟩
def sp_Lone : Sp := fun vs H Q _ => ∃ (b s : Addr) (xs : List V), vs = [.ref b, .ref s] ∧ Bag b H ∧ H s = some (.lst xs) ∧ NB (.lst xs) ∧ 0 < xs.length ∧ xs.length < 1073741824 ∧ ∀ v H1, Ex H H1 → v ∈ xs → Q v H1
theorem u_Lone {xs : List V} (hb : Bag b H) (hs : H s = some (.lst xs)) (nb : NB (.lst xs)) (h0 : 0 < xs.length) (h1 : xs.length < 1073741824) (k : ∀ v H1, Ex H H1 → v ∈ xs → Q v H1) : sp_Lone [.ref b, .ref s] H Q E := ⟨b, s, xs, rfl, hb, hs, nb, h0, h1, k⟩
theorem ok_Lone (T : Txt K w mg a) : FnOk P w K mg base CX0 2 a.a_Lone a.fd_Lone ["_law_bag_here", "_law_some"] sp_Lone := by
  refine T.F_Lone.ok sc_Lone (fun vs H Q E h => ?_) (fun cdv A outer s H vs Q E hr h => ?_)
  · obtain ⟨b, s, xs, rfl, _⟩ := h; rfl
  · obtain ⟨b, s, xs, rfl, hb, hs, nb, h0, h1, k⟩ := h
    have G_Ltake := ok_Ltake (P := P) (base := base) T
    refine ⟨_, (pss_one (ps_ret (pe_ix ix_list (pv 1) (pe_call G_Ltake (hr.mono (by decide)) (by rfl) T.m_Ltake T.k_Ltake T.b_Ltake .nil pass0 (pa_cons (pv 0) (pa_cons (pe_callB c_len (by rfl) T.n_len PySem.boot_len (pa_cons (pv 1) pa_nil)) pa_nil))) (fun _ _ => rfl)))), ?_⟩
    walk_at "rd"
    rename_i d H1 e1 d0 d1
    have hl : d.toNat < xs.length := by omega
    refine x_ixL (by walk_at "hk") (at_nat d0 (List.getElem?_eq_getElem hl)) ?_
    exact k _ _ e1 (List.getElem_mem hl)
end
end My

set_option Elab.async false
set_option linter.all false
set_option maxRecDepth 100000
set_option maxHeartbeats 8000000
namespace My
open PySem PySem.Spec PyProof.Rows L2 Sx
local macro_rules | `(tactic| walk_at "nb") => `(tactic| first | exact NB.tup | exact NB.ints | exact NB.len (of_decide_eq_true rfl) | exact NB.at0b rfl | exact NB.at3b rfl | exact NB.ins | exact NB.own | exact NB.frz | exact NB.refs (by assumption) | assumption)
local macro_rules | `(tactic| walk_at "ne") => `(tactic| first | assumption | exact Ne.symm (by assumption) | exact ne_of_none (by assumption) (by assumption) | exact Ne.symm (ne_of_none (by assumption) (by assumption)))
local macro_rules | `(tactic| walk_at "hk") => `(tactic| first
  | assumption
  | exact upd_same
  | (refine' (upd_ne ?hkne).trans ?hkq; (case hkne => walk_at "ne"); (case hkq => walk_at "hk"))
  | (refine' Ex.kp (by assumption) _ _ ?hkq ?hkn; (case hkq => walk_at "hk"); (case hkn => walk_at "nb")))
local macro_rules | `(tactic| walk_at "rd1") => `(tactic| first
  | ((with_reducible refine' x_var ?hx ?_); (case hx => exact rfl))
  | with_reducible refine x_c ?_
  | with_reducible refine x_op ?_
  | with_reducible refine x_un ?_
  | with_reducible refine x_I0 ?_
  | with_reducible refine x_U ?_
  | ((with_reducible refine x_I ?hc ?_); (case hc => first | exact (by decide : (0 : Int) < _) | (show (0 : Int) < _; omega) | (show CMul _ _; first | exact .inl ⟨by omega, by omega⟩ | exact .inr ⟨by omega, by omega⟩) | (show CDiv _ _; exact ⟨by omega, by omega⟩) | (show CDivW _ _; exact wide_div (b := 200) (by omega) (by assumption) (by decide) (by decide)) | (show CDivW _ _; exact wide_div (b := 31) (by omega) (by omega) (by decide) (by decide))))
  | with_reducible refine x_EqI ?_
  | with_reducible refine x_NeI ?_
  | ((with_reducible refine x_EqSt ?h ?_); (case h => decide +kernel))
  | ((with_reducible refine x_EqSf ?h ?_); (case h => decide +kernel))
  | ((with_reducible refine x_NeSt ?h ?_); (case h => decide +kernel))
  | ((with_reducible refine x_NeSf ?h ?_); (case h => decide +kernel))
  | with_reducible refine x_EqS ?_
  | with_reducible refine x_NeS ?_
  | ((with_reducible refine' x_ixL ?hq ?hi ?_); (case hq => walk_at "hk"); (case hi => first | exact rfl | assumption))
  | ((with_reducible refine' x_ixT ?hq ?hi ?_); (case hq => walk_at "hk"); (case hi => first | exact rfl | assumption))
  | with_reducible refine x_chain ?_
  | with_reducible refine x_tup ?_
  | with_reducible refine x_lst ?_
  | ((with_reducible refine x_lenNew ?hl ?_); (case hl => exact Nat.le_of_ble_eq_true rfl); intro _ _ _ _ _)
  | ((with_reducible refine x_new ?_); intro _ _ _ _ _)
  | with_reducible refine x_sl ?_
  | with_reducible refine x_noPart ?_
  | with_reducible refine x_part ?_
  | with_reducible refine x_ex_int ?_
  | with_reducible refine x_ex_bl ?_
  | with_reducible refine x_ex_2 ?_
  | with_reducible refine x_test ?_
  | with_reducible refine x_B ?_
  | with_reducible refine x_and ?_
  | with_reducible refine x_or ?_
  | with_reducible refine x_not ?_
  | with_reducible refine x_andV ?_
  | with_reducible refine x_orV ?_
  | with_reducible refine x_notV ?_
  | with_reducible refine x_ifE ?_
  | with_reducible refine x_iteT ?_
  | with_reducible refine x_iteF ?_
  | ((with_reducible refine x_iteD ?_ ?_) <;> intro _)
  | ((with_reducible refine x_iteN ?_ ?_) <;> intro _)
  | with_reducible refine x_if ?_
  | with_reducible refine x_seq ?_
  | with_reducible refine x_next ?_
  | with_reducible refine x_asg ?_
  | with_reducible refine x_gName ?_
  | ((with_reducible refine' x_gTup ?hq ?hn ?_); (case hq => walk_at "hk"); (case hn => exact rfl))
  | with_reducible refine x_gCons ?_
  | with_reducible refine x_gNil ?_
  | ((with_reducible refine' x_gConsE ?h ?_); (case h => exact rfl))
  | ((with_reducible refine x_gNilE ?h ?_); (case h => exact rfl))
  | with_reducible refine x_ret ?_
  | with_reducible refine x_drop ?_
  | with_reducible refine x_par ?_
  | ((with_reducible refine' x_aug ?hx ?_); (case hx => exact rfl))
  | with_reducible refine x_ipI ?_
  | with_reducible refine x_augS ?_
  | with_reducible refine x_gSub ?_
  | ((with_reducible refine' x_setL ?hq ?hi ?_); (case hq => walk_at "hk"); (case hi => first | exact rfl | assumption))
  | with_reducible refine x_cons ?_
  | with_reducible refine x_nil ?_
  | with_reducible refine x_CB ?_
  | with_reducible refine x_abs ?_
  | with_reducible refine x_intI ?_
  | with_reducible refine x_intB ?_
  | ((with_reducible refine' x_lenL ?hq ?_); (case hq => walk_at "hk"))
  | ((with_reducible refine' x_lenT ?hq ?_); (case hq => walk_at "hk"))
  | ((with_reducible refine x_iteTe ?h ?_); (case h => exact rfl))
  | ((with_reducible refine x_iteFe ?h ?_); (case h => exact rfl))
  | walk_at "use"
  | with_reducible refine x_callS ?_
  | ((with_reducible refine x_lc ?_))
  | ((with_reducible refine x_for ?_))
  | ((with_reducible refine x_iR1 ?_))
  | ((with_reducible refine x_iL ?_))
  | ((with_reducible refine x_iZ ?_))
  | ((with_reducible refine x_yes ?_))
  | ((with_reducible refine' x_NIDt ?hq ?_); (case hq => assumption))
  | ((with_reducible refine' x_NIDf ?hq ?_); (case hq => assumption))
  | ((with_reducible refine' x_IIDf ?hq ?_); (case hq => assumption))
  | ((with_reducible refine' x_IIDt ?hq ?_); (case hq => assumption))
  | ((with_reducible refine' x_ixDs ?hd ?hq ?_); (case hd => assumption); (case hq => assumption))
  | ((with_reducible refine x_InSt ?h ?_); (case h => decide +kernel))
  | ((with_reducible refine x_InSf ?h ?_); (case h => decide +kernel))
  | ((with_reducible refine' x_notInI ?hq ?_); (case hq => walk_at "hk"))
  | ((with_reducible refine' x_inTt ?hq ?hv ?ha ?he ?_); (case hq => walk_at "hk"); (case hv => exact rfl); (case ha => exact rfl); (case he => decide +kernel))
  | ((with_reducible refine' x_inTf ?hq ?hv ?ha ?he ?_); (case hq => walk_at "hk"); (case hv => exact rfl); (case ha => exact rfl); (case he => decide +kernel))
  | ((with_reducible refine' x_slT ?hq ?hw ?_); (case hq => walk_at "hk"); (case hw => with_unfolding_all exact of_decide_eq_true rfl))
  | ((with_reducible refine' x_slL ?hq ?_); (case hq => walk_at "hk"))
  | ((with_reducible refine' x_catT ?hq ?hr ?n1 ?n2 ?hl ?_); (case hq => walk_at "hk"); (case hr => walk_at "hk"); (case n1 => exact List.cons_ne_nil _ _); (case n2 => exact List.cons_ne_nil _ _); (case hl => exact Nat.le_of_ble_eq_true rfl))
  | ((with_reducible refine x_bm ?_))
  | ((with_reducible refine x_lstRg ?_))
  | ((with_reducible refine x_rg1 ?_))
  | ((with_reducible refine And.intro ?h ?_); (case h => exact tyL (by assumption)))
  | dsimp only)
local macro_rules | `(tactic| walk_at "use") => `(tactic| fail)
local macro_rules | `(tactic| walk_at "rd") => `(tactic| repeat' (walk_at "rd1"))
local macro_rules | `(tactic| walk_at "ex") => `(tactic| first | exact Ex.refl _ | assumption | (refine' Ex.trans ?he (by assumption); (case he => walk_at "ex")))
local macro_rules | `(tactic| walk_at "rd1") => `(tactic| first
  | ((with_reducible refine x_iteDf ?h ?_); (case h => exact rfl))
  | ((with_reducible refine x_iteDt ?h ?_); (case h => exact rfl))
  | ((with_reducible refine x_iteNf ?h ?_); (case h => exact rfl))
  | ((with_reducible refine x_iteNt ?h ?_); (case h => exact rfl))
  | ((with_reducible refine x_isiI (r := true) ?h ?_); (case h => decide +kernel))
  | ((with_reducible refine x_isiI (r := false) ?h ?_); (case h => decide +kernel))
  | ((with_reducible refine x_isiS (r := true) ?h ?_); (case h => decide +kernel))
  | ((with_reducible refine x_isiS (r := false) ?h ?_); (case h => decide +kernel))
  | ((with_reducible refine x_isiB (r := true) ?h ?_); (case h => decide +kernel))
  | ((with_reducible refine x_isiB (r := false) ?h ?_); (case h => decide +kernel))
  | ((with_reducible refine' x_isiT (r := true) ?hp ?h ?_); (case hp => walk_at "hk"); (case h => decide +kernel))
  | ((with_reducible refine' x_isiT (r := false) ?hp ?h ?_); (case hp => walk_at "hk"); (case h => decide +kernel))
  | ((with_reducible refine' x_isiL (r := true) ?hp ?h ?_); (case hp => walk_at "hk"); (case h => decide +kernel))
  | ((with_reducible refine' x_isiL (r := false) ?hp ?h ?_); (case hp => walk_at "hk"); (case h => decide +kernel))
  | ((with_reducible refine' x_isi2L ?hp ?hl ?_); (case hp => walk_at "hk"); (case hl => walk_at "hk"))
  | ((with_reducible refine' x_isi2T ?hp ?hl ?_); (case hp => walk_at "hk"); (case hl => walk_at "hk"))
  | ((with_reducible refine' x_tupOfL ?hq ?_); (case hq => walk_at "hk"))
  | ((with_reducible refine' x_tupOfT ?hq ?_); (case hq => walk_at "hk"))
  | ((with_reducible refine x_lenS ?h ?_); (case h => exact Nat.le_of_ble_eq_true rfl))
  | ((with_reducible refine' x_all ?hq ?_); (case hq => walk_at "hk"))
  | with_reducible refine x_lenSet ?_)
local macro_rules | `(tactic| walk_at "nb") => `(tactic| first | exact NB.xd | exact NB.dK)
local macro_rules | `(tactic| walk_at "rd1") => `(tactic| first
  | with_reducible refine Er.x_par3 ?_
  | with_reducible refine Er.x_ex_3 ?_
  | with_reducible refine Er.x_revL0 ?_
  | ((with_reducible refine' Er.x_revL ?hq ?_); (case hq => walk_at "hk"))
  | with_reducible refine Er.x_dget2 ?_
  | with_reducible refine x_dict0 ?_
  | ((with_reducible refine x_pow ?hc ?_); (case hc => exact ⟨by decide, by decide, by decide⟩))
  | ((with_reducible refine And.intro ?h ?_); (case h => exact tyL (by walk_at "hk")))
  | ((with_reducible refine' Er.x_dis ?hq ?_); (case hq => walk_at "hk"))
  | ((with_reducible refine' Er.x_dgo ?hq ?he ?_); (case hq => walk_at "hk"); (case he => exact rfl)))
local macro_rules | `(tactic| walk_at "rd1") => `(tactic| first
  | with_reducible refine Er.x_callSS ?_
  | ((with_reducible refine Er.x_mulS2 ?h ?h0 ?h1 ?_); (case h => decide); (case h0 => decide); (case h1 => decide)))
local macro_rules | `(tactic| walk_at "rd1") => `(tactic| first
  | with_reducible refine Er.x_iR2 ?_
  | with_reducible refine Er.x_iEn ?_
  | with_reducible refine Er.x_cont ?_
  | ((with_reducible refine Er.x_isBt ?h ?_); (case h => exact rfl))
  | ((with_reducible refine Er.x_isBf ?h ?_); (case h => exact rfl))
  | ((with_reducible refine Er.x_isNBt ?h ?_); (case h => exact rfl))
  | ((with_reducible refine Er.x_isNBf ?h ?_); (case h => exact rfl))
  | with_reducible refine Er.x_isB ?_
  | with_reducible refine Er.x_isNB ?_)
local macro_rules | `(tactic| walk_at "nb") => `(tactic| exact NB.dT)
local macro_rules | `(tactic| walk_at "rd1") => `(tactic| first
  | with_reducible refine Er.x_dNotIn ?_
  | with_reducible refine Er.x_dPut ?_
  | with_reducible refine Er.x_dnewT ?_)

local macro_rules | `(tactic| walk_at "ev") => `(tactic| first | assumption | (refine' Er.ErrV.mono ?hev ?eev; (case hev => assumption); (case eev => walk_at "ex")))
local macro_rules | `(tactic| walk_at "rd1") => `(tactic| first
  | (with_reducible refine' Er.x_er ?_)
  | (with_reducible refine' Er.x_eff ?_)
  | ((with_reducible refine' x_cat ?h ?h' ?l ?_); (case h => walk_at "hk"); (case h' => walk_at "hk"); (case l => exact Nat.le_trans (show _ ≤ 1000 from Nat.le_of_ble_eq_true rfl) (by decide)))
  | ((with_reducible refine' Er.x_er1 ?t ?_); (case t => assumption); intro _ _ _ _)
  | ((with_reducible refine' Er.x_er2 ?t ?_); (case t => assumption); intro _ _ _ _)
  | ((with_reducible refine' Er.x_er0 ?t ?_); (case t => assumption); intro _ _ _ _)
  | ((with_reducible refine' Er.x_isE ?h ?hk ?_); (case h => walk_at "ev"); (case hk => assumption))
  | ((with_reducible refine' Er.x_efk ?h ?hno ?l ?_); (case h => walk_at "ev"); (case hno => assumption); (case l => rfl)))
section
variable {P : Program} {w : World} {K : PySem.W.Frag} {mg : Str → Option Value} {base : Heap} {a : Ad} {H H1 : Hp} {Q : VK} {E : XK} {p b : Addr} {v u : V} {fs : List (Str × V)} {c : Addr}
open Er
/-! errors made -/
theorem ok_Wrong_init (T : Txt K w mg a) : FnOk P w K mg base CX0 1 a.a_Wrong_init a.fd_Wrong_init ["self", "place"] (Er.sp_init a.c_Wrong "place") := by
  refine T.F_Wrong_init.ok sc_Wrong_init (fun vs H Q E h => ?_) (fun cdv A outer s H vs Q E hr h => ?_)
  · obtain ⟨x, y, rfl, _⟩ := h; rfl
  · obtain ⟨x, y, rfl, hx, k⟩ := h
    refine ⟨_, (pss_one (ps_ost (pv 0) (pv 1))), ?_⟩
    exact Er.x_init (N := []) T.x_Wrong T.N_Wrong_place hx rfl rfl k
theorem ok_NoCall_init (T : Txt K w mg a) : FnOk P w K mg base CX0 1 a.a_NoCall_init a.fd_NoCall_init ["self", "thing"] (Er.sp_init a.c_NoCall "thing") := by
  refine T.F_NoCall_init.ok sc_NoCall_init (fun vs H Q E h => ?_) (fun cdv A outer s H vs Q E hr h => ?_)
  · obtain ⟨x, y, rfl, _⟩ := h; rfl
  · obtain ⟨x, y, rfl, hx, k⟩ := h
    refine ⟨_, (pss_one (ps_ost (pv 0) (pv 1))), ?_⟩
    exact Er.x_init (N := []) T.x_NoCall T.N_NoCall_thing hx rfl rfl k
theorem ok_NoPlace_init (T : Txt K w mg a) : FnOk P w K mg base CX0 1 a.a_NoPlace_init a.fd_NoPlace_init ["self", "place"] (Er.sp_init a.c_NoPlace "place") := by
  refine T.F_NoPlace_init.ok sc_NoPlace_init (fun vs H Q E h => ?_) (fun cdv A outer s H vs Q E hr h => ?_)
  · obtain ⟨x, y, rfl, _⟩ := h; rfl
  · obtain ⟨x, y, rfl, hx, k⟩ := h
    refine ⟨_, (pss_one (ps_ost (pv 0) (pv 1))), ?_⟩
    exact Er.x_init (N := []) T.x_NoPlace T.N_NoPlace_place hx rfl rfl k
theorem ok_NoPupil_init (T : Txt K w mg a) : FnOk P w K mg base CX0 1 a.a_NoPupil_init a.fd_NoPupil_init ["self", "pupil"] (Er.sp_init a.c_NoPupil "pupil") := by
  refine T.F_NoPupil_init.ok sc_NoPupil_init (fun vs H Q E h => ?_) (fun cdv A outer s H vs Q E hr h => ?_)
  · obtain ⟨x, y, rfl, _⟩ := h; rfl
  · obtain ⟨x, y, rfl, hx, k⟩ := h
    refine ⟨_, (pss_one (ps_ost (pv 0) (pv 1))), ?_⟩
    exact Er.x_init (N := []) T.x_NoPupil T.N_NoPupil_pupil hx rfl rfl k
theorem ok_NoWish_init (T : Txt K w mg a) : FnOk P w K mg base CX0 1 a.a_NoWish_init a.fd_NoWish_init ["self", "wish"] (Er.sp_init a.c_NoWish "wish") := by
  refine T.F_NoWish_init.ok sc_NoWish_init (fun vs H Q E h => ?_) (fun cdv A outer s H vs Q E hr h => ?_)
  · obtain ⟨x, y, rfl, _⟩ := h; rfl
  · obtain ⟨x, y, rfl, hx, k⟩ := h
    refine ⟨_, (pss_one (ps_ost (pv 0) (pv 1))), ?_⟩
    exact Er.x_init (N := []) T.x_NoWish T.N_NoWish_wish hx rfl rfl k
theorem ok_NoStep_init (T : Txt K w mg a) : FnOk P w K mg base CX0 1 a.a_NoStep_init a.fd_NoStep_init ["self", "step"] (Er.sp_init a.c_NoStep "step") := by
  refine T.F_NoStep_init.ok sc_NoStep_init (fun vs H Q E h => ?_) (fun cdv A outer s H vs Q E hr h => ?_)
  · obtain ⟨x, y, rfl, _⟩ := h; rfl
  · obtain ⟨x, y, rfl, hx, k⟩ := h
    refine ⟨_, (pss_one (ps_ost (pv 0) (pv 1))), ?_⟩
    exact Er.x_init (N := []) T.x_NoStep T.N_NoStep_step hx rfl rfl k
theorem ok_NoClaim_init (T : Txt K w mg a) : FnOk P w K mg base CX0 1 a.a_NoClaim_init a.fd_NoClaim_init ["self", "claim"] (Er.sp_init a.c_NoClaim "claim") := by
  refine T.F_NoClaim_init.ok sc_NoClaim_init (fun vs H Q E h => ?_) (fun cdv A outer s H vs Q E hr h => ?_)
  · obtain ⟨x, y, rfl, _⟩ := h; rfl
  · obtain ⟨x, y, rfl, hx, k⟩ := h
    refine ⟨_, (pss_one (ps_ost (pv 0) (pv 1))), ?_⟩
    exact Er.x_init (N := []) T.x_NoClaim T.N_NoClaim_claim hx rfl rfl k
theorem ok_NoRow_init (T : Txt K w mg a) : FnOk P w K mg base CX0 1 a.a_NoRow_init a.fd_NoRow_init ["self", "row"] (Er.sp_init a.c_NoRow "row") := by
  refine T.F_NoRow_init.ok sc_NoRow_init (fun vs H Q E h => ?_) (fun cdv A outer s H vs Q E hr h => ?_)
  · obtain ⟨x, y, rfl, _⟩ := h; rfl
  · obtain ⟨x, y, rfl, hx, k⟩ := h
    refine ⟨_, (pss_one (ps_ost (pv 0) (pv 1))), ?_⟩
    exact Er.x_init (N := []) T.x_NoRow T.N_NoRow_row hx rfl rfl k
theorem ok_NoOrder_init (T : Txt K w mg a) : FnOk P w K mg base CX0 1 a.a_NoOrder_init a.fd_NoOrder_init ["self", "base", "modulus"] (Er.sp_init2 a.c_NoOrder "base" "modulus") := by
  refine T.F_NoOrder_init.ok sc_NoOrder_init (fun vs H Q E h => ?_) (fun cdv A outer s H vs Q E hr h => ?_)
  · obtain ⟨x, y, z, rfl, _⟩ := h; rfl
  · obtain ⟨x, y, z, rfl, hx, k⟩ := h
    refine ⟨_, (pss_cons (ps_ost (pv 0) (pv 1))
      (pss_one (ps_ost (pv 0) (pv 2)))), ?_⟩
    exact Er.x_init2 T.x_NoOrder T.N_NoOrder_base T.N_NoOrder_modulus hx rfl rfl rfl k
theorem ok_NoArrangement_init (T : Txt K w mg a) : FnOk P w K mg base CX0 1 a.a_NoArrangement_init a.fd_NoArrangement_init ["self", "thing"] (Er.sp_init a.c_NoArrangement "thing") := by
  refine T.F_NoArrangement_init.ok sc_NoArrangement_init (fun vs H Q E h => ?_) (fun cdv A outer s H vs Q E hr h => ?_)
  · obtain ⟨x, y, rfl, _⟩ := h; rfl
  · obtain ⟨x, y, rfl, hx, k⟩ := h
    refine ⟨_, (pss_one (ps_ost (pv 0) (pv 1))), ?_⟩
    exact Er.x_init (N := []) T.x_NoArrangement T.N_NoArrangement_thing hx rfl rfl k
theorem ok_Full_init (T : Txt K w mg a) : FnOk P w K mg base CX0 1 a.a_Full_init a.fd_Full_init ["self", "limit"] (Er.sp_init a.c_Full "limit") := by
  refine T.F_Full_init.ok sc_Full_init (fun vs H Q E h => ?_) (fun cdv A outer s H vs Q E hr h => ?_)
  · obtain ⟨x, y, rfl, _⟩ := h; rfl
  · obtain ⟨x, y, rfl, hx, k⟩ := h
    refine ⟨_, (pss_one (ps_ost (pv 0) (pv 1))), ?_⟩
    exact Er.x_init (N := []) T.x_Full T.N_Full_limit hx rfl rfl k
theorem ok_Away_init (T : Txt K w mg a) : FnOk P w K mg base CX0 1 a.a_Away_init a.fd_Away_init ["self", "pupil"] (Er.sp_init a.c_Away "pupil") := by
  refine T.F_Away_init.ok sc_Away_init (fun vs H Q E h => ?_) (fun cdv A outer s H vs Q E hr h => ?_)
  · obtain ⟨x, y, rfl, _⟩ := h; rfl
  · obtain ⟨x, y, rfl, hx, k⟩ := h
    refine ⟨_, (pss_one (ps_ost (pv 0) (pv 1))), ?_⟩
    exact Er.x_init (N := []) T.x_Away T.N_Away_pupil hx rfl rfl k
theorem ok_There_init (T : Txt K w mg a) : FnOk P w K mg base CX0 1 a.a_There_init a.fd_There_init ["self", "pupil"] (Er.sp_init a.c_There "pupil") := by
  refine T.F_There_init.ok sc_There_init (fun vs H Q E h => ?_) (fun cdv A outer s H vs Q E hr h => ?_)
  · obtain ⟨x, y, rfl, _⟩ := h; rfl
  · obtain ⟨x, y, rfl, hx, k⟩ := h
    refine ⟨_, (pss_one (ps_ost (pv 0) (pv 1))), ?_⟩
    exact Er.x_init (N := []) T.x_There T.N_There_pupil hx rfl rfl k
def ecs (a : Ad) : List Addr := [a.c_Wrong, a.c_NoCall, a.c_NoPlace, a.c_NoPupil, a.c_NoStep, a.c_NoClaim, a.c_NoRow, a.c_NoArrangement, a.c_Full, a.c_Away, a.c_There, a.c_NoOrder, a.c_Unlike, a.c_Open, a.c_Nothing, a.c_NoText, a.c_NoCommand, a.c_NoWish]
/-- the errors in their order, with what they hold -/
def etab (a : Ad) (x y : V) : List (Addr × List (Str × V)) := [(a.c_Wrong, [("place", x)]), (a.c_NoCall, [("thing", x)]), (a.c_NoPlace, [("place", x)]), (a.c_NoPupil, [("pupil", x)]), (a.c_NoStep, [("step", x)]), (a.c_NoClaim, [("claim", x)]), (a.c_NoRow, [("row", x)]), (a.c_NoArrangement, [("thing", x)]), (a.c_Full, [("limit", x)]), (a.c_Away, [("pupil", x)]), (a.c_There, [("pupil", x)]), (a.c_NoOrder, [("modulus", y), ("base", x)]), (a.c_Unlike, []), (a.c_Open, []), (a.c_Nothing, []), (a.c_NoText, []), (a.c_NoCommand, []), (a.c_NoWish, [("wish", x)])]
inductive Errs (K : PySem.W.Frag) (H : Hp) : List V → List (Addr × List (Str × V)) → Prop where
  | nil : Errs K H [] []
  | cons {p c : Addr} {fs : List (Str × V)} {xs : List V} {l : List (Addr × List (Str × V))} (h : ErrV K H (.ref p) c fs) (r : Errs K H xs l) : Errs K H (.ref p :: xs) ((c, fs) :: l)
theorem Errs.mono {xs : List V} {l : List (Addr × List (Str × V))} (h : Errs K H xs l) (e : Ex H H1) : Errs K H1 xs l := by
  induction h with
  | nil => exact .nil
  | cons h _ ih => exact .cons (h.mono e) ih
def sp_Lerrors (K : PySem.W.Frag) (a : Ad) : Sp := fun vs H Q _ => ∃ x y : V, vs = [x, y] ∧ ∀ p xs H1, Ex H H1 → NF H p → H1 p = some (.lst xs) → NB (.lst xs) → Errs K H1 xs (etab a x y) → Q (.ref p) H1
theorem ok_Lerrors (T : Txt K w mg a) : FnOk P w K mg base CX0 3 a.a_Lerrors a.fd_Lerrors ["_law_x", "_law_y"] (sp_Lerrors K a) := by
  refine T.F_Lerrors.ok sc_Lerrors (fun vs H Q E h => ?_) (fun cdv A outer s H vs Q E hr h => ?_)
  · obtain ⟨x, y, rfl, _⟩ := h; rfl
  · obtain ⟨x, y, rfl, k⟩ := h
    have G_Wrong_init := ok_Wrong_init (P := P) (base := base) T
    have G_NoCall_init := ok_NoCall_init (P := P) (base := base) T
    have G_NoPlace_init := ok_NoPlace_init (P := P) (base := base) T
    have G_NoPupil_init := ok_NoPupil_init (P := P) (base := base) T
    have G_NoStep_init := ok_NoStep_init (P := P) (base := base) T
    have G_NoClaim_init := ok_NoClaim_init (P := P) (base := base) T
    have G_NoRow_init := ok_NoRow_init (P := P) (base := base) T
    have G_NoArrangement_init := ok_NoArrangement_init (P := P) (base := base) T
    have G_Full_init := ok_Full_init (P := P) (base := base) T
    have G_Away_init := ok_Away_init (P := P) (base := base) T
    have G_There_init := ok_There_init (P := P) (base := base) T
    have G_NoOrder_init := ok_NoOrder_init (P := P) (base := base) T
    have G_NoWish_init := ok_NoWish_init (P := P) (base := base) T
    have x_Wrong := T.x_Wrong
    have x_NoCall := T.x_NoCall
    have x_NoPlace := T.x_NoPlace
    have x_NoPupil := T.x_NoPupil
    have x_NoStep := T.x_NoStep
    have x_NoClaim := T.x_NoClaim
    have x_NoRow := T.x_NoRow
    have x_NoArrangement := T.x_NoArrangement
    have x_Full := T.x_Full
    have x_Away := T.x_Away
    have x_There := T.x_There
    have x_NoOrder := T.x_NoOrder
    have x_Unlike := T.x_Unlike
    have x_Open := T.x_Open
    have x_Nothing := T.x_Nothing
    have x_NoText := T.x_NoText
    have x_NoCommand := T.x_NoCommand
    have x_NoWish := T.x_NoWish
    refine ⟨_, (pss_cons (ps_set (i := 2) sc_Lerrors.nd rfl (Or.inl rfl) (pe_lst (pa_cons (Er.pe_err T.x_Wrong.oex T.i_Wrong T.ti_Wrong G_Wrong_init (hr.mono (by decide)) T.b_Wrong_init pass0 (by rfl) T.m_Wrong (pa_cons (pv 0) pa_nil)) (pa_cons (Er.pe_err T.x_NoCall.oex T.i_NoCall T.ti_NoCall G_NoCall_init (hr.mono (by decide)) T.b_NoCall_init pass0 (by rfl) T.m_NoCall (pa_cons (pv 0) pa_nil)) (pa_cons (Er.pe_err T.x_NoPlace.oex T.i_NoPlace T.ti_NoPlace G_NoPlace_init (hr.mono (by decide)) T.b_NoPlace_init pass0 (by rfl) T.m_NoPlace (pa_cons (pv 0) pa_nil)) (pa_cons (Er.pe_err T.x_NoPupil.oex T.i_NoPupil T.ti_NoPupil G_NoPupil_init (hr.mono (by decide)) T.b_NoPupil_init pass0 (by rfl) T.m_NoPupil (pa_cons (pv 0) pa_nil)) (pa_cons (Er.pe_err T.x_NoStep.oex T.i_NoStep T.ti_NoStep G_NoStep_init (hr.mono (by decide)) T.b_NoStep_init pass0 (by rfl) T.m_NoStep (pa_cons (pv 0) pa_nil)) (pa_cons (Er.pe_err T.x_NoClaim.oex T.i_NoClaim T.ti_NoClaim G_NoClaim_init (hr.mono (by decide)) T.b_NoClaim_init pass0 (by rfl) T.m_NoClaim (pa_cons (pv 0) pa_nil)) (pa_cons (Er.pe_err T.x_NoRow.oex T.i_NoRow T.ti_NoRow G_NoRow_init (hr.mono (by decide)) T.b_NoRow_init pass0 (by rfl) T.m_NoRow (pa_cons (pv 0) pa_nil)) (pa_cons (Er.pe_err T.x_NoArrangement.oex T.i_NoArrangement T.ti_NoArrangement G_NoArrangement_init (hr.mono (by decide)) T.b_NoArrangement_init pass0 (by rfl) T.m_NoArrangement (pa_cons (pv 0) pa_nil)) (pa_cons (Er.pe_err T.x_Full.oex T.i_Full T.ti_Full G_Full_init (hr.mono (by decide)) T.b_Full_init pass0 (by rfl) T.m_Full (pa_cons (pv 0) pa_nil)) pa_nil)))))))))))
      (pss_one (ps_ret (pe_op op_cat (pv 2) (pe_lst (pa_cons (Er.pe_err T.x_Away.oex T.i_Away T.ti_Away G_Away_init (hr.mono (by decide)) T.b_Away_init pass0 (by rfl) T.m_Away (pa_cons (pv 0) pa_nil)) (pa_cons (Er.pe_err T.x_There.oex T.i_There T.ti_There G_There_init (hr.mono (by decide)) T.b_There_init pass0 (by rfl) T.m_There (pa_cons (pv 0) pa_nil)) (pa_cons (Er.pe_err T.x_NoOrder.oex T.i_NoOrder T.ti_NoOrder G_NoOrder_init (hr.mono (by decide)) T.b_NoOrder_init pass0 (by rfl) T.m_NoOrder (pa_cons (pv 0) (pa_cons (pv 1) pa_nil))) (pa_cons (Er.pe_err0 PySem.F.excBase_ValueError T.x0_Unlike T.m_Unlike T.x_Unlike.oex.kC (by rfl)) (pa_cons (Er.pe_err0 PySem.F.excBase_ValueError T.x0_Open T.m_Open T.x_Open.oex.kC (by rfl)) (pa_cons (Er.pe_err0 PySem.F.excBase_ValueError T.x0_Nothing T.m_Nothing T.x_Nothing.oex.kC (by rfl)) (pa_cons (Er.pe_err0 PySem.F.excBase_ValueError T.x0_NoText T.m_NoText T.x_NoText.oex.kC (by rfl)) (pa_cons (Er.pe_err0 PySem.F.excBase_ValueError T.x0_NoCommand T.m_NoCommand T.x_NoCommand.oex.kC (by rfl)) (pa_cons (Er.pe_err T.x_NoWish.oex T.i_NoWish T.ti_NoWish G_NoWish_init (hr.mono (by decide)) T.b_NoWish_init pass0 (by rfl) T.m_NoWish (pa_cons (pv 0) pa_nil)) pa_nil)))))))))))))), ?_⟩
    walk_at "rd"
    refine' k _ _ _ ?ex ?nf ?h ?nb ?e
    case nf =>
      refine' NF.new ?e1 ?f1
      case f1 => assumption
      case e1 => walk_at "ex"
    case h => assumption
    case ex => walk_at "ex"
    case nb => exact NB.at0b rfl
    case e =>
      unfold etab
      exact .cons (by walk_at "ev") (.cons (by walk_at "ev") (.cons (by walk_at "ev") (.cons (by walk_at "ev") (.cons (by walk_at "ev") (.cons (by walk_at "ev") (.cons (by walk_at "ev") (.cons (by walk_at "ev") (.cons (by walk_at "ev") (.cons (by walk_at "ev") (.cons (by walk_at "ev") (.cons (by walk_at "ev") (.cons (by walk_at "ev") (.cons (by walk_at "ev") (.cons (by walk_at "ev") (.cons (by walk_at "ev") (.cons (by walk_at "ev") (.cons (by walk_at "ev") .nil)))))))))))))))))
end
end My

set_option Elab.async false
set_option linter.all false
set_option maxRecDepth 100000
set_option maxHeartbeats 8000000
namespace My
open PySem PySem.Spec PyProof.Rows L2 Sx
local macro_rules | `(tactic| walk_at "nb") => `(tactic| first | exact NB.tup | exact NB.ints | exact NB.len (of_decide_eq_true rfl) | exact NB.at0b rfl | exact NB.at3b rfl | exact NB.ins | exact NB.own | exact NB.frz | exact NB.refs (by assumption) | assumption)
local macro_rules | `(tactic| walk_at "ne") => `(tactic| first | assumption | exact Ne.symm (by assumption) | exact ne_of_none (by assumption) (by assumption) | exact Ne.symm (ne_of_none (by assumption) (by assumption)))
local macro_rules | `(tactic| walk_at "hk") => `(tactic| first
  | assumption
  | exact upd_same
  | (refine' (upd_ne ?hkne).trans ?hkq; (case hkne => walk_at "ne"); (case hkq => walk_at "hk"))
  | (refine' Ex.kp (by assumption) _ _ ?hkq ?hkn; (case hkq => walk_at "hk"); (case hkn => walk_at "nb")))
local macro_rules | `(tactic| walk_at "rd1") => `(tactic| first
  | ((with_reducible refine' x_var ?hx ?_); (case hx => exact rfl))
  | with_reducible refine x_c ?_
  | with_reducible refine x_op ?_
  | with_reducible refine x_un ?_
  | with_reducible refine x_I0 ?_
  | with_reducible refine x_U ?_
  | ((with_reducible refine x_I ?hc ?_); (case hc => first | exact (by decide : (0 : Int) < _) | (show (0 : Int) < _; omega) | (show CMul _ _; first | exact .inl ⟨by omega, by omega⟩ | exact .inr ⟨by omega, by omega⟩) | (show CDiv _ _; exact ⟨by omega, by omega⟩) | (show CDivW _ _; exact wide_div (b := 200) (by omega) (by assumption) (by decide) (by decide)) | (show CDivW _ _; exact wide_div (b := 31) (by omega) (by omega) (by decide) (by decide))))
  | with_reducible refine x_EqI ?_
  | with_reducible refine x_NeI ?_
  | ((with_reducible refine x_EqSt ?h ?_); (case h => decide +kernel))
  | ((with_reducible refine x_EqSf ?h ?_); (case h => decide +kernel))
  | ((with_reducible refine x_NeSt ?h ?_); (case h => decide +kernel))
  | ((with_reducible refine x_NeSf ?h ?_); (case h => decide +kernel))
  | with_reducible refine x_EqS ?_
  | with_reducible refine x_NeS ?_
  | ((with_reducible refine' x_ixL ?hq ?hi ?_); (case hq => walk_at "hk"); (case hi => first | exact rfl | assumption))
  | ((with_reducible refine' x_ixT ?hq ?hi ?_); (case hq => walk_at "hk"); (case hi => first | exact rfl | assumption))
  | with_reducible refine x_chain ?_
  | with_reducible refine x_tup ?_
  | with_reducible refine x_lst ?_
  | ((with_reducible refine x_lenNew ?hl ?_); (case hl => exact Nat.le_of_ble_eq_true rfl); intro _ _ _ _ _)
  | ((with_reducible refine x_new ?_); intro _ _ _ _ _)
  | with_reducible refine x_sl ?_
  | with_reducible refine x_noPart ?_
  | with_reducible refine x_part ?_
  | with_reducible refine x_ex_int ?_
  | with_reducible refine x_ex_bl ?_
  | with_reducible refine x_ex_2 ?_
  | with_reducible refine x_test ?_
  | with_reducible refine x_B ?_
  | with_reducible refine x_and ?_
  | with_reducible refine x_or ?_
  | with_reducible refine x_not ?_
  | with_reducible refine x_andV ?_
  | with_reducible refine x_orV ?_
  | with_reducible refine x_notV ?_
  | with_reducible refine x_ifE ?_
  | with_reducible refine x_iteT ?_
  | with_reducible refine x_iteF ?_
  | ((with_reducible refine x_iteD ?_ ?_) <;> intro _)
  | ((with_reducible refine x_iteN ?_ ?_) <;> intro _)
  | with_reducible refine x_if ?_
  | with_reducible refine x_seq ?_
  | with_reducible refine x_next ?_
  | with_reducible refine x_asg ?_
  | with_reducible refine x_gName ?_
  | ((with_reducible refine' x_gTup ?hq ?hn ?_); (case hq => walk_at "hk"); (case hn => exact rfl))
  | with_reducible refine x_gCons ?_
  | with_reducible refine x_gNil ?_
  | ((with_reducible refine' x_gConsE ?h ?_); (case h => exact rfl))
  | ((with_reducible refine x_gNilE ?h ?_); (case h => exact rfl))
  | with_reducible refine x_ret ?_
  | with_reducible refine x_drop ?_
  | with_reducible refine x_par ?_
  | ((with_reducible refine' x_aug ?hx ?_); (case hx => exact rfl))
  | with_reducible refine x_ipI ?_
  | with_reducible refine x_augS ?_
  | with_reducible refine x_gSub ?_
  | ((with_reducible refine' x_setL ?hq ?hi ?_); (case hq => walk_at "hk"); (case hi => first | exact rfl | assumption))
  | with_reducible refine x_cons ?_
  | with_reducible refine x_nil ?_
  | with_reducible refine x_CB ?_
  | with_reducible refine x_abs ?_
  | with_reducible refine x_intI ?_
  | with_reducible refine x_intB ?_
  | ((with_reducible refine' x_lenL ?hq ?_); (case hq => walk_at "hk"))
  | ((with_reducible refine' x_lenT ?hq ?_); (case hq => walk_at "hk"))
  | ((with_reducible refine x_iteTe ?h ?_); (case h => exact rfl))
  | ((with_reducible refine x_iteFe ?h ?_); (case h => exact rfl))
  | walk_at "use"
  | with_reducible refine x_callS ?_
  | ((with_reducible refine x_lc ?_))
  | ((with_reducible refine x_for ?_))
  | ((with_reducible refine x_iR1 ?_))
  | ((with_reducible refine x_iL ?_))
  | ((with_reducible refine x_iZ ?_))
  | ((with_reducible refine x_yes ?_))
  | ((with_reducible refine' x_NIDt ?hq ?_); (case hq => assumption))
  | ((with_reducible refine' x_NIDf ?hq ?_); (case hq => assumption))
  | ((with_reducible refine' x_IIDf ?hq ?_); (case hq => assumption))
  | ((with_reducible refine' x_IIDt ?hq ?_); (case hq => assumption))
  | ((with_reducible refine' x_ixDs ?hd ?hq ?_); (case hd => assumption); (case hq => assumption))
  | ((with_reducible refine x_InSt ?h ?_); (case h => decide +kernel))
  | ((with_reducible refine x_InSf ?h ?_); (case h => decide +kernel))
  | ((with_reducible refine' x_notInI ?hq ?_); (case hq => walk_at "hk"))
  | ((with_reducible refine' x_inTt ?hq ?hv ?ha ?he ?_); (case hq => walk_at "hk"); (case hv => exact rfl); (case ha => exact rfl); (case he => decide +kernel))
  | ((with_reducible refine' x_inTf ?hq ?hv ?ha ?he ?_); (case hq => walk_at "hk"); (case hv => exact rfl); (case ha => exact rfl); (case he => decide +kernel))
  | ((with_reducible refine' x_slT ?hq ?hw ?_); (case hq => walk_at "hk"); (case hw => with_unfolding_all exact of_decide_eq_true rfl))
  | ((with_reducible refine' x_slL ?hq ?_); (case hq => walk_at "hk"))
  | ((with_reducible refine' x_catT ?hq ?hr ?n1 ?n2 ?hl ?_); (case hq => walk_at "hk"); (case hr => walk_at "hk"); (case n1 => exact List.cons_ne_nil _ _); (case n2 => exact List.cons_ne_nil _ _); (case hl => exact Nat.le_of_ble_eq_true rfl))
  | ((with_reducible refine x_bm ?_))
  | ((with_reducible refine x_lstRg ?_))
  | ((with_reducible refine x_rg1 ?_))
  | ((with_reducible refine And.intro ?h ?_); (case h => exact tyL (by assumption)))
  | dsimp only)
local macro_rules | `(tactic| walk_at "use") => `(tactic| fail)
local macro_rules | `(tactic| walk_at "rd") => `(tactic| repeat' (walk_at "rd1"))
local macro_rules | `(tactic| walk_at "ex") => `(tactic| first | exact Ex.refl _ | assumption | (refine' Ex.trans ?he (by assumption); (case he => walk_at "ex")))
local macro_rules | `(tactic| walk_at "rd1") => `(tactic| first
  | ((with_reducible refine x_iteDf ?h ?_); (case h => exact rfl))
  | ((with_reducible refine x_iteDt ?h ?_); (case h => exact rfl))
  | ((with_reducible refine x_iteNf ?h ?_); (case h => exact rfl))
  | ((with_reducible refine x_iteNt ?h ?_); (case h => exact rfl))
  | ((with_reducible refine x_isiI (r := true) ?h ?_); (case h => decide +kernel))
  | ((with_reducible refine x_isiI (r := false) ?h ?_); (case h => decide +kernel))
  | ((with_reducible refine x_isiS (r := true) ?h ?_); (case h => decide +kernel))
  | ((with_reducible refine x_isiS (r := false) ?h ?_); (case h => decide +kernel))
  | ((with_reducible refine x_isiB (r := true) ?h ?_); (case h => decide +kernel))
  | ((with_reducible refine x_isiB (r := false) ?h ?_); (case h => decide +kernel))
  | ((with_reducible refine' x_isiT (r := true) ?hp ?h ?_); (case hp => walk_at "hk"); (case h => decide +kernel))
  | ((with_reducible refine' x_isiT (r := false) ?hp ?h ?_); (case hp => walk_at "hk"); (case h => decide +kernel))
  | ((with_reducible refine' x_isiL (r := true) ?hp ?h ?_); (case hp => walk_at "hk"); (case h => decide +kernel))
  | ((with_reducible refine' x_isiL (r := false) ?hp ?h ?_); (case hp => walk_at "hk"); (case h => decide +kernel))
  | ((with_reducible refine' x_isi2L ?hp ?hl ?_); (case hp => walk_at "hk"); (case hl => walk_at "hk"))
  | ((with_reducible refine' x_isi2T ?hp ?hl ?_); (case hp => walk_at "hk"); (case hl => walk_at "hk"))
  | ((with_reducible refine' x_tupOfL ?hq ?_); (case hq => walk_at "hk"))
  | ((with_reducible refine' x_tupOfT ?hq ?_); (case hq => walk_at "hk"))
  | ((with_reducible refine x_lenS ?h ?_); (case h => exact Nat.le_of_ble_eq_true rfl))
  | ((with_reducible refine' x_all ?hq ?_); (case hq => walk_at "hk"))
  | with_reducible refine x_lenSet ?_)
local macro_rules | `(tactic| walk_at "nb") => `(tactic| first | exact NB.xd | exact NB.dK)
local macro_rules | `(tactic| walk_at "rd1") => `(tactic| first
  | with_reducible refine Er.x_par3 ?_
  | with_reducible refine Er.x_ex_3 ?_
  | with_reducible refine Er.x_revL0 ?_
  | ((with_reducible refine' Er.x_revL ?hq ?_); (case hq => walk_at "hk"))
  | with_reducible refine Er.x_dget2 ?_
  | with_reducible refine x_dict0 ?_
  | ((with_reducible refine x_pow ?hc ?_); (case hc => exact ⟨by decide, by decide, by decide⟩))
  | ((with_reducible refine And.intro ?h ?_); (case h => exact tyL (by walk_at "hk")))
  | ((with_reducible refine' Er.x_dis ?hq ?_); (case hq => walk_at "hk"))
  | ((with_reducible refine' Er.x_dgo ?hq ?he ?_); (case hq => walk_at "hk"); (case he => exact rfl)))
local macro_rules | `(tactic| walk_at "rd1") => `(tactic| first
  | with_reducible refine Er.x_callSS ?_
  | ((with_reducible refine Er.x_mulS2 ?h ?h0 ?h1 ?_); (case h => decide); (case h0 => decide); (case h1 => decide)))
local macro_rules | `(tactic| walk_at "rd1") => `(tactic| first
  | with_reducible refine Er.x_iR2 ?_
  | with_reducible refine Er.x_iEn ?_
  | with_reducible refine Er.x_cont ?_
  | ((with_reducible refine Er.x_isBt ?h ?_); (case h => exact rfl))
  | ((with_reducible refine Er.x_isBf ?h ?_); (case h => exact rfl))
  | ((with_reducible refine Er.x_isNBt ?h ?_); (case h => exact rfl))
  | ((with_reducible refine Er.x_isNBf ?h ?_); (case h => exact rfl))
  | with_reducible refine Er.x_isB ?_
  | with_reducible refine Er.x_isNB ?_)
local macro_rules | `(tactic| walk_at "nb") => `(tactic| exact NB.dT)
local macro_rules | `(tactic| walk_at "rd1") => `(tactic| first
  | with_reducible refine Er.x_dNotIn ?_
  | with_reducible refine Er.x_dPut ?_
  | with_reducible refine Er.x_dnewT ?_)

local macro_rules | `(tactic| walk_at "ev") => `(tactic| first | assumption | (refine' Er.ErrV.mono ?hev ?eev; (case hev => assumption); (case eev => walk_at "ex")))
local macro_rules | `(tactic| walk_at "rd1") => `(tactic| first
  | (with_reducible refine' Er.x_er ?_)
  | (with_reducible refine' Er.x_eff ?_)
  | ((with_reducible refine' x_cat ?h ?h' ?l ?_); (case h => walk_at "hk"); (case h' => walk_at "hk"); (case l => exact Nat.le_trans (show _ ≤ 1000 from Nat.le_of_ble_eq_true rfl) (by decide)))
  | ((with_reducible refine' Er.x_er1 ?t ?_); (case t => assumption); intro _ _ _ _)
  | ((with_reducible refine' Er.x_er2 ?t ?_); (case t => assumption); intro _ _ _ _)
  | ((with_reducible refine' Er.x_er0 ?t ?_); (case t => assumption); intro _ _ _ _)
  | ((with_reducible refine' Er.x_isE ?h ?hk ?_); (case h => walk_at "ev"); (case hk => assumption))
  | ((with_reducible refine' Er.x_efk ?h ?hno ?l ?_); (case h => walk_at "ev"); (case hno => assumption); (case l => rfl)))
section
variable {P : Program} {w : World} {K : PySem.W.Frag} {mg : Str → Option Value} {base : Heap} {a : Ad} {H H1 : Hp} {Q : VK} {E : XK} {p b : Addr} {v u : V} {fs : List (Str × V)} {c : Addr}
open Er
def sp_Lflags (K : PySem.W.Frag) (a : Ad) : Sp := fun vs H Q _ => ∃ (v : V) (i : Nat) (c : Addr) (fs : List (Str × V)), vs = [v] ∧ (ecs a)[i]? = some c ∧ ErrV K H v c fs ∧ ∀ p H1, Ex H H1 → H1 p = some (.lst ((List.range 18).map fun j => .bl (decide (i = j)))) → Q (.ref p) H1
theorem ok_Lflags (T : Txt K w mg a) : FnOk P w K mg base CX0 1 a.a_Lflags a.fd_Lflags ["_law_e"] (sp_Lflags K a) := by
  refine T.F_Lflags.ok sc_Lflags (fun vs H Q E h => ?_) (fun cdv A outer s H vs Q E hr h => ?_)
  · obtain ⟨v, i, c, fs, rfl, _⟩ := h; rfl
  · obtain ⟨v, i, c, fs, rfl, hi, hv, k⟩ := h
    have k_Wrong : PySem.W.kitOne K (.ref c) (.ref a.c_Wrong) = some (decide (i = 0)) := Er.kt_at T.kt hi (by rfl)
    have k_NoCall : PySem.W.kitOne K (.ref c) (.ref a.c_NoCall) = some (decide (i = 1)) := Er.kt_at T.kt hi (by rfl)
    have k_NoPlace : PySem.W.kitOne K (.ref c) (.ref a.c_NoPlace) = some (decide (i = 2)) := Er.kt_at T.kt hi (by rfl)
    have k_NoPupil : PySem.W.kitOne K (.ref c) (.ref a.c_NoPupil) = some (decide (i = 3)) := Er.kt_at T.kt hi (by rfl)
    have k_NoStep : PySem.W.kitOne K (.ref c) (.ref a.c_NoStep) = some (decide (i = 4)) := Er.kt_at T.kt hi (by rfl)
    have k_NoClaim : PySem.W.kitOne K (.ref c) (.ref a.c_NoClaim) = some (decide (i = 5)) := Er.kt_at T.kt hi (by rfl)
    have k_NoRow : PySem.W.kitOne K (.ref c) (.ref a.c_NoRow) = some (decide (i = 6)) := Er.kt_at T.kt hi (by rfl)
    have k_NoArrangement : PySem.W.kitOne K (.ref c) (.ref a.c_NoArrangement) = some (decide (i = 7)) := Er.kt_at T.kt hi (by rfl)
    have k_Full : PySem.W.kitOne K (.ref c) (.ref a.c_Full) = some (decide (i = 8)) := Er.kt_at T.kt hi (by rfl)
    have k_Away : PySem.W.kitOne K (.ref c) (.ref a.c_Away) = some (decide (i = 9)) := Er.kt_at T.kt hi (by rfl)
    have k_There : PySem.W.kitOne K (.ref c) (.ref a.c_There) = some (decide (i = 10)) := Er.kt_at T.kt hi (by rfl)
    have k_NoOrder : PySem.W.kitOne K (.ref c) (.ref a.c_NoOrder) = some (decide (i = 11)) := Er.kt_at T.kt hi (by rfl)
    have k_Unlike : PySem.W.kitOne K (.ref c) (.ref a.c_Unlike) = some (decide (i = 12)) := Er.kt_at T.kt hi (by rfl)
    have k_Open : PySem.W.kitOne K (.ref c) (.ref a.c_Open) = some (decide (i = 13)) := Er.kt_at T.kt hi (by rfl)
    have k_Nothing : PySem.W.kitOne K (.ref c) (.ref a.c_Nothing) = some (decide (i = 14)) := Er.kt_at T.kt hi (by rfl)
    have k_NoText : PySem.W.kitOne K (.ref c) (.ref a.c_NoText) = some (decide (i = 15)) := Er.kt_at T.kt hi (by rfl)
    have k_NoCommand : PySem.W.kitOne K (.ref c) (.ref a.c_NoCommand) = some (decide (i = 16)) := Er.kt_at T.kt hi (by rfl)
    have k_NoWish : PySem.W.kitOne K (.ref c) (.ref a.c_NoWish) = some (decide (i = 17)) := Er.kt_at T.kt hi (by rfl)
    refine ⟨_, (pss_cons (ps_set (i := 1) sc_Lflags.nd rfl (Or.inl rfl) (pe_lst (pa_cons (pe_callB Er.call_isE (by rfl) T.n_isinstance (by decide +kernel) (pa_cons (pv 0) (pa_cons (pe_glob (v := .ref a.c_Wrong) (by rfl) T.m_Wrong rfl) pa_nil))) (pa_cons (pe_callB Er.call_isE (by rfl) T.n_isinstance (by decide +kernel) (pa_cons (pv 0) (pa_cons (pe_glob (v := .ref a.c_NoCall) (by rfl) T.m_NoCall rfl) pa_nil))) (pa_cons (pe_callB Er.call_isE (by rfl) T.n_isinstance (by decide +kernel) (pa_cons (pv 0) (pa_cons (pe_glob (v := .ref a.c_NoPlace) (by rfl) T.m_NoPlace rfl) pa_nil))) (pa_cons (pe_callB Er.call_isE (by rfl) T.n_isinstance (by decide +kernel) (pa_cons (pv 0) (pa_cons (pe_glob (v := .ref a.c_NoPupil) (by rfl) T.m_NoPupil rfl) pa_nil))) pa_nil))))))
      (pss_cons (ps_set (i := 1) sc_Lflags.nd rfl (Or.inl rfl) (pe_op op_cat (pv 1) (pe_lst (pa_cons (pe_callB Er.call_isE (by rfl) T.n_isinstance (by decide +kernel) (pa_cons (pv 0) (pa_cons (pe_glob (v := .ref a.c_NoStep) (by rfl) T.m_NoStep rfl) pa_nil))) (pa_cons (pe_callB Er.call_isE (by rfl) T.n_isinstance (by decide +kernel) (pa_cons (pv 0) (pa_cons (pe_glob (v := .ref a.c_NoClaim) (by rfl) T.m_NoClaim rfl) pa_nil))) (pa_cons (pe_callB Er.call_isE (by rfl) T.n_isinstance (by decide +kernel) (pa_cons (pv 0) (pa_cons (pe_glob (v := .ref a.c_NoRow) (by rfl) T.m_NoRow rfl) pa_nil))) (pa_cons (pe_callB Er.call_isE (by rfl) T.n_isinstance (by decide +kernel) (pa_cons (pv 0) (pa_cons (pe_glob (v := .ref a.c_NoArrangement) (by rfl) T.m_NoArrangement rfl) pa_nil))) pa_nil)))))))
      (pss_cons (ps_set (i := 1) sc_Lflags.nd rfl (Or.inl rfl) (pe_op op_cat (pv 1) (pe_lst (pa_cons (pe_callB Er.call_isE (by rfl) T.n_isinstance (by decide +kernel) (pa_cons (pv 0) (pa_cons (pe_glob (v := .ref a.c_Full) (by rfl) T.m_Full rfl) pa_nil))) (pa_cons (pe_callB Er.call_isE (by rfl) T.n_isinstance (by decide +kernel) (pa_cons (pv 0) (pa_cons (pe_glob (v := .ref a.c_Away) (by rfl) T.m_Away rfl) pa_nil))) (pa_cons (pe_callB Er.call_isE (by rfl) T.n_isinstance (by decide +kernel) (pa_cons (pv 0) (pa_cons (pe_glob (v := .ref a.c_There) (by rfl) T.m_There rfl) pa_nil))) (pa_cons (pe_callB Er.call_isE (by rfl) T.n_isinstance (by decide +kernel) (pa_cons (pv 0) (pa_cons (pe_glob (v := .ref a.c_NoOrder) (by rfl) T.m_NoOrder rfl) pa_nil))) pa_nil)))))))
      (pss_cons (ps_set (i := 1) sc_Lflags.nd rfl (Or.inl rfl) (pe_op op_cat (pv 1) (pe_lst (pa_cons (pe_callB Er.call_isE (by rfl) T.n_isinstance (by decide +kernel) (pa_cons (pv 0) (pa_cons (pe_glob (v := .ref a.c_Unlike) (by rfl) T.m_Unlike rfl) pa_nil))) (pa_cons (pe_callB Er.call_isE (by rfl) T.n_isinstance (by decide +kernel) (pa_cons (pv 0) (pa_cons (pe_glob (v := .ref a.c_Open) (by rfl) T.m_Open rfl) pa_nil))) (pa_cons (pe_callB Er.call_isE (by rfl) T.n_isinstance (by decide +kernel) (pa_cons (pv 0) (pa_cons (pe_glob (v := .ref a.c_Nothing) (by rfl) T.m_Nothing rfl) pa_nil))) (pa_cons (pe_callB Er.call_isE (by rfl) T.n_isinstance (by decide +kernel) (pa_cons (pv 0) (pa_cons (pe_glob (v := .ref a.c_NoText) (by rfl) T.m_NoText rfl) pa_nil))) pa_nil)))))))
      (pss_one (ps_ret (pe_op op_cat (pv 1) (pe_lst (pa_cons (pe_callB Er.call_isE (by rfl) T.n_isinstance (by decide +kernel) (pa_cons (pv 0) (pa_cons (pe_glob (v := .ref a.c_NoCommand) (by rfl) T.m_NoCommand rfl) pa_nil))) (pa_cons (pe_callB Er.call_isE (by rfl) T.n_isinstance (by decide +kernel) (pa_cons (pv 0) (pa_cons (pe_glob (v := .ref a.c_NoWish) (by rfl) T.m_NoWish rfl) pa_nil))) pa_nil)))))))))), ?_⟩
    walk_at "rd"
    refine' k _ _ ?ex ?h
    case h => first | assumption | (rename_i hz; exact hz)
    case ex => walk_at "ex"
def sp_Lfields (K : PySem.W.Frag) (a : Ad) : Sp := fun vs H Q _ => ∃ (p : Addr) (xs : List V) (x y : V), vs = [.ref p] ∧ H p = some (.lst xs) ∧ Errs K H xs (etab a x y) ∧ ∀ q H1, Ex H H1 → H1 q = some (.lst (List.replicate 13 x)) → Q (.ref q) H1
theorem ok_Lfields (T : Txt K w mg a) : FnOk P w K mg base CX0 1 a.a_Lfields a.fd_Lfields ["_law_some"] (sp_Lfields K a) := by
  refine T.F_Lfields.ok sc_Lfields (fun vs H Q E h => ?_) (fun cdv A outer s H vs Q E hr h => ?_)
  · obtain ⟨p, xs, x, y, rfl, _⟩ := h; rfl
  · obtain ⟨p, xs, x, y, rfl, hp, he, k⟩ := h
    have N_Wrong_place := T.N_Wrong_place
    have N_NoCall_thing := T.N_NoCall_thing
    have N_NoPlace_place := T.N_NoPlace_place
    have N_NoPupil_pupil := T.N_NoPupil_pupil
    have N_NoStep_step := T.N_NoStep_step
    have N_NoClaim_claim := T.N_NoClaim_claim
    have N_NoRow_row := T.N_NoRow_row
    have N_NoArrangement_thing := T.N_NoArrangement_thing
    have N_Full_limit := T.N_Full_limit
    have N_Away_pupil := T.N_Away_pupil
    have N_There_pupil := T.N_There_pupil
    have N_NoOrder_base := T.N_NoOrder_base
    have N_NoOrder_modulus := T.N_NoOrder_modulus
    have N_NoWish_wish := T.N_NoWish_wish
    unfold etab at he
    rcases he with _ | ⟨e0, he⟩
    rcases he with _ | ⟨e1, he⟩
    rcases he with _ | ⟨e2, he⟩
    rcases he with _ | ⟨e3, he⟩
    rcases he with _ | ⟨e4, he⟩
    rcases he with _ | ⟨e5, he⟩
    rcases he with _ | ⟨e6, he⟩
    rcases he with _ | ⟨e7, he⟩
    rcases he with _ | ⟨e8, he⟩
    rcases he with _ | ⟨e9, he⟩
    rcases he with _ | ⟨e10, he⟩
    rcases he with _ | ⟨e11, he⟩
    rcases he with _ | ⟨e12, he⟩
    rcases he with _ | ⟨e13, he⟩
    rcases he with _ | ⟨e14, he⟩
    rcases he with _ | ⟨e15, he⟩
    rcases he with _ | ⟨e16, he⟩
    rcases he with _ | ⟨e17, he⟩
    cases he
    refine ⟨_, (pss_cons (ps_set (i := 1) sc_Lfields.nd rfl (Or.inl rfl) (pe_lst (pa_cons (Er.pe_ef (pe_ix ix_list (pv 0) pe_int (fun _ _ => rfl))) (pa_cons (Er.pe_ef (pe_ix ix_list (pv 0) pe_int (fun _ _ => rfl))) (pa_cons (Er.pe_ef (pe_ix ix_list (pv 0) pe_int (fun _ _ => rfl))) (pa_cons (Er.pe_ef (pe_ix ix_list (pv 0) pe_int (fun _ _ => rfl))) (pa_cons (Er.pe_ef (pe_ix ix_list (pv 0) pe_int (fun _ _ => rfl))) (pa_cons (Er.pe_ef (pe_ix ix_list (pv 0) pe_int (fun _ _ => rfl))) (pa_cons (Er.pe_ef (pe_ix ix_list (pv 0) pe_int (fun _ _ => rfl))) pa_nil)))))))))
      (pss_one (ps_ret (pe_op op_cat (pv 1) (pe_lst (pa_cons (Er.pe_ef (pe_ix ix_list (pv 0) pe_int (fun _ _ => rfl))) (pa_cons (Er.pe_ef (pe_ix ix_list (pv 0) pe_int (fun _ _ => rfl))) (pa_cons (Er.pe_ef (pe_ix ix_list (pv 0) pe_int (fun _ _ => rfl))) (pa_cons (Er.pe_ef (pe_ix ix_list (pv 0) pe_int (fun _ _ => rfl))) (pa_cons (Er.pe_ef (pe_ix ix_list (pv 0) pe_int (fun _ _ => rfl))) (pa_cons (Er.pe_ef (pe_ix ix_list (pv 0) pe_int (fun _ _ => rfl))) pa_nil))))))))))), ?_⟩
    walk_at "rd"
    refine' k _ _ ?ex ?h
    case h => first | assumption | (rename_i hz; exact hz)
    case ex => walk_at "ex"
end
end My

set_option Elab.async false
set_option linter.all false
set_option maxRecDepth 100000
set_option maxHeartbeats 8000000
namespace My
open PySem PySem.Spec PyProof.Rows L2 Sx
local macro_rules | `(tactic| walk_at "nb") => `(tactic| first | exact NB.tup | exact NB.ints | exact NB.len (of_decide_eq_true rfl) | exact NB.at0b rfl | exact NB.at3b rfl | exact NB.ins | exact NB.own | exact NB.frz | exact NB.refs (by assumption) | assumption)
local macro_rules | `(tactic| walk_at "ne") => `(tactic| first | assumption | exact Ne.symm (by assumption) | exact ne_of_none (by assumption) (by assumption) | exact Ne.symm (ne_of_none (by assumption) (by assumption)))
local macro_rules | `(tactic| walk_at "hk") => `(tactic| first
  | assumption
  | exact upd_same
  | (refine' (upd_ne ?hkne).trans ?hkq; (case hkne => walk_at "ne"); (case hkq => walk_at "hk"))
  | (refine' Ex.kp (by assumption) _ _ ?hkq ?hkn; (case hkq => walk_at "hk"); (case hkn => walk_at "nb")))
local macro_rules | `(tactic| walk_at "rd1") => `(tactic| first
  | ((with_reducible refine' x_var ?hx ?_); (case hx => exact rfl))
  | with_reducible refine x_c ?_
  | with_reducible refine x_op ?_
  | with_reducible refine x_un ?_
  | with_reducible refine x_I0 ?_
  | with_reducible refine x_U ?_
  | ((with_reducible refine x_I ?hc ?_); (case hc => first | exact (by decide : (0 : Int) < _) | (show (0 : Int) < _; omega) | (show CMul _ _; first | exact .inl ⟨by omega, by omega⟩ | exact .inr ⟨by omega, by omega⟩) | (show CDiv _ _; exact ⟨by omega, by omega⟩) | (show CDivW _ _; exact wide_div (b := 200) (by omega) (by assumption) (by decide) (by decide)) | (show CDivW _ _; exact wide_div (b := 31) (by omega) (by omega) (by decide) (by decide))))
  | with_reducible refine x_EqI ?_
  | with_reducible refine x_NeI ?_
  | ((with_reducible refine x_EqSt ?h ?_); (case h => decide +kernel))
  | ((with_reducible refine x_EqSf ?h ?_); (case h => decide +kernel))
  | ((with_reducible refine x_NeSt ?h ?_); (case h => decide +kernel))
  | ((with_reducible refine x_NeSf ?h ?_); (case h => decide +kernel))
  | with_reducible refine x_EqS ?_
  | with_reducible refine x_NeS ?_
  | ((with_reducible refine' x_ixL ?hq ?hi ?_); (case hq => walk_at "hk"); (case hi => first | exact rfl | assumption))
  | ((with_reducible refine' x_ixT ?hq ?hi ?_); (case hq => walk_at "hk"); (case hi => first | exact rfl | assumption))
  | with_reducible refine x_chain ?_
  | with_reducible refine x_tup ?_
  | with_reducible refine x_lst ?_
  | ((with_reducible refine x_lenNew ?hl ?_); (case hl => exact Nat.le_of_ble_eq_true rfl); intro _ _ _ _ _)
  | ((with_reducible refine x_new ?_); intro _ _ _ _ _)
  | with_reducible refine x_sl ?_
  | with_reducible refine x_noPart ?_
  | with_reducible refine x_part ?_
  | with_reducible refine x_ex_int ?_
  | with_reducible refine x_ex_bl ?_
  | with_reducible refine x_ex_2 ?_
  | with_reducible refine x_test ?_
  | with_reducible refine x_B ?_
  | with_reducible refine x_and ?_
  | with_reducible refine x_or ?_
  | with_reducible refine x_not ?_
  | with_reducible refine x_andV ?_
  | with_reducible refine x_orV ?_
  | with_reducible refine x_notV ?_
  | with_reducible refine x_ifE ?_
  | with_reducible refine x_iteT ?_
  | with_reducible refine x_iteF ?_
  | ((with_reducible refine x_iteD ?_ ?_) <;> intro _)
  | ((with_reducible refine x_iteN ?_ ?_) <;> intro _)
  | with_reducible refine x_if ?_
  | with_reducible refine x_seq ?_
  | with_reducible refine x_next ?_
  | with_reducible refine x_asg ?_
  | with_reducible refine x_gName ?_
  | ((with_reducible refine' x_gTup ?hq ?hn ?_); (case hq => walk_at "hk"); (case hn => exact rfl))
  | with_reducible refine x_gCons ?_
  | with_reducible refine x_gNil ?_
  | ((with_reducible refine' x_gConsE ?h ?_); (case h => exact rfl))
  | ((with_reducible refine x_gNilE ?h ?_); (case h => exact rfl))
  | with_reducible refine x_ret ?_
  | with_reducible refine x_drop ?_
  | with_reducible refine x_par ?_
  | ((with_reducible refine' x_aug ?hx ?_); (case hx => exact rfl))
  | with_reducible refine x_ipI ?_
  | with_reducible refine x_augS ?_
  | with_reducible refine x_gSub ?_
  | ((with_reducible refine' x_setL ?hq ?hi ?_); (case hq => walk_at "hk"); (case hi => first | exact rfl | assumption))
  | with_reducible refine x_cons ?_
  | with_reducible refine x_nil ?_
  | with_reducible refine x_CB ?_
  | with_reducible refine x_abs ?_
  | with_reducible refine x_intI ?_
  | with_reducible refine x_intB ?_
  | ((with_reducible refine' x_lenL ?hq ?_); (case hq => walk_at "hk"))
  | ((with_reducible refine' x_lenT ?hq ?_); (case hq => walk_at "hk"))
  | ((with_reducible refine x_iteTe ?h ?_); (case h => exact rfl))
  | ((with_reducible refine x_iteFe ?h ?_); (case h => exact rfl))
  | walk_at "use"
  | with_reducible refine x_callS ?_
  | ((with_reducible refine x_lc ?_))
  | ((with_reducible refine x_for ?_))
  | ((with_reducible refine x_iR1 ?_))
  | ((with_reducible refine x_iL ?_))
  | ((with_reducible refine x_iZ ?_))
  | ((with_reducible refine x_yes ?_))
  | ((with_reducible refine' x_NIDt ?hq ?_); (case hq => assumption))
  | ((with_reducible refine' x_NIDf ?hq ?_); (case hq => assumption))
  | ((with_reducible refine' x_IIDf ?hq ?_); (case hq => assumption))
  | ((with_reducible refine' x_IIDt ?hq ?_); (case hq => assumption))
  | ((with_reducible refine' x_ixDs ?hd ?hq ?_); (case hd => assumption); (case hq => assumption))
  | ((with_reducible refine x_InSt ?h ?_); (case h => decide +kernel))
  | ((with_reducible refine x_InSf ?h ?_); (case h => decide +kernel))
  | ((with_reducible refine' x_notInI ?hq ?_); (case hq => walk_at "hk"))
  | ((with_reducible refine' x_inTt ?hq ?hv ?ha ?he ?_); (case hq => walk_at "hk"); (case hv => exact rfl); (case ha => exact rfl); (case he => decide +kernel))
  | ((with_reducible refine' x_inTf ?hq ?hv ?ha ?he ?_); (case hq => walk_at "hk"); (case hv => exact rfl); (case ha => exact rfl); (case he => decide +kernel))
  | ((with_reducible refine' x_slT ?hq ?hw ?_); (case hq => walk_at "hk"); (case hw => with_unfolding_all exact of_decide_eq_true rfl))
  | ((with_reducible refine' x_slL ?hq ?_); (case hq => walk_at "hk"))
  | ((with_reducible refine' x_catT ?hq ?hr ?n1 ?n2 ?hl ?_); (case hq => walk_at "hk"); (case hr => walk_at "hk"); (case n1 => exact List.cons_ne_nil _ _); (case n2 => exact List.cons_ne_nil _ _); (case hl => exact Nat.le_of_ble_eq_true rfl))
  | ((with_reducible refine x_bm ?_))
  | ((with_reducible refine x_lstRg ?_))
  | ((with_reducible refine x_rg1 ?_))
  | ((with_reducible refine And.intro ?h ?_); (case h => exact tyL (by assumption)))
  | dsimp only)
local macro_rules | `(tactic| walk_at "use") => `(tactic| fail)
local macro_rules | `(tactic| walk_at "rd") => `(tactic| repeat' (walk_at "rd1"))
local macro_rules | `(tactic| walk_at "ex") => `(tactic| first | exact Ex.refl _ | assumption | (refine' Ex.trans ?he (by assumption); (case he => walk_at "ex")))
local macro_rules | `(tactic| walk_at "rd1") => `(tactic| first
  | ((with_reducible refine x_iteDf ?h ?_); (case h => exact rfl))
  | ((with_reducible refine x_iteDt ?h ?_); (case h => exact rfl))
  | ((with_reducible refine x_iteNf ?h ?_); (case h => exact rfl))
  | ((with_reducible refine x_iteNt ?h ?_); (case h => exact rfl))
  | ((with_reducible refine x_isiI (r := true) ?h ?_); (case h => decide +kernel))
  | ((with_reducible refine x_isiI (r := false) ?h ?_); (case h => decide +kernel))
  | ((with_reducible refine x_isiS (r := true) ?h ?_); (case h => decide +kernel))
  | ((with_reducible refine x_isiS (r := false) ?h ?_); (case h => decide +kernel))
  | ((with_reducible refine x_isiB (r := true) ?h ?_); (case h => decide +kernel))
  | ((with_reducible refine x_isiB (r := false) ?h ?_); (case h => decide +kernel))
  | ((with_reducible refine' x_isiT (r := true) ?hp ?h ?_); (case hp => walk_at "hk"); (case h => decide +kernel))
  | ((with_reducible refine' x_isiT (r := false) ?hp ?h ?_); (case hp => walk_at "hk"); (case h => decide +kernel))
  | ((with_reducible refine' x_isiL (r := true) ?hp ?h ?_); (case hp => walk_at "hk"); (case h => decide +kernel))
  | ((with_reducible refine' x_isiL (r := false) ?hp ?h ?_); (case hp => walk_at "hk"); (case h => decide +kernel))
  | ((with_reducible refine' x_isi2L ?hp ?hl ?_); (case hp => walk_at "hk"); (case hl => walk_at "hk"))
  | ((with_reducible refine' x_isi2T ?hp ?hl ?_); (case hp => walk_at "hk"); (case hl => walk_at "hk"))
  | ((with_reducible refine' x_tupOfL ?hq ?_); (case hq => walk_at "hk"))
  | ((with_reducible refine' x_tupOfT ?hq ?_); (case hq => walk_at "hk"))
  | ((with_reducible refine x_lenS ?h ?_); (case h => exact Nat.le_of_ble_eq_true rfl))
  | ((with_reducible refine' x_all ?hq ?_); (case hq => walk_at "hk"))
  | with_reducible refine x_lenSet ?_)
local macro_rules | `(tactic| walk_at "nb") => `(tactic| first | exact NB.xd | exact NB.dK)
local macro_rules | `(tactic| walk_at "rd1") => `(tactic| first
  | with_reducible refine Er.x_par3 ?_
  | with_reducible refine Er.x_ex_3 ?_
  | with_reducible refine Er.x_revL0 ?_
  | ((with_reducible refine' Er.x_revL ?hq ?_); (case hq => walk_at "hk"))
  | with_reducible refine Er.x_dget2 ?_
  | with_reducible refine x_dict0 ?_
  | ((with_reducible refine x_pow ?hc ?_); (case hc => exact ⟨by decide, by decide, by decide⟩))
  | ((with_reducible refine And.intro ?h ?_); (case h => exact tyL (by walk_at "hk")))
  | ((with_reducible refine' Er.x_dis ?hq ?_); (case hq => walk_at "hk"))
  | ((with_reducible refine' Er.x_dgo ?hq ?he ?_); (case hq => walk_at "hk"); (case he => exact rfl)))
local macro_rules | `(tactic| walk_at "rd1") => `(tactic| first
  | with_reducible refine Er.x_callSS ?_
  | ((with_reducible refine Er.x_mulS2 ?h ?h0 ?h1 ?_); (case h => decide); (case h0 => decide); (case h1 => decide)))
local macro_rules | `(tactic| walk_at "rd1") => `(tactic| first
  | with_reducible refine Er.x_iR2 ?_
  | with_reducible refine Er.x_iEn ?_
  | with_reducible refine Er.x_cont ?_
  | ((with_reducible refine Er.x_isBt ?h ?_); (case h => exact rfl))
  | ((with_reducible refine Er.x_isBf ?h ?_); (case h => exact rfl))
  | ((with_reducible refine Er.x_isNBt ?h ?_); (case h => exact rfl))
  | ((with_reducible refine Er.x_isNBf ?h ?_); (case h => exact rfl))
  | with_reducible refine Er.x_isB ?_
  | with_reducible refine Er.x_isNB ?_)
local macro_rules | `(tactic| walk_at "nb") => `(tactic| exact NB.dT)
local macro_rules | `(tactic| walk_at "rd1") => `(tactic| first
  | with_reducible refine Er.x_dNotIn ?_
  | with_reducible refine Er.x_dPut ?_
  | with_reducible refine Er.x_dnewT ?_)

section
variable {P : Program} {w : World} {K : PySem.W.Frag} {mg : Str → Option Value} {base : Heap} {a : Ad} {H H1 G : Hp} {Q : VK} {E : XK} {p b : Addr} {v u : V}
open Er
local macro_rules | `(tactic| walk_at "okf") => `(tactic| repeat' (first | exact Er.All.nil | refine Er.All.cons ?_ ?_ | exact trivial | (show Er.strB _ = true; decide +kernel) | (show Int.natAbs _ < 10 ^ 59; first | omega | decide +kernel)))
/-- a drawn value: a list or dict of it is new since G -/
inductive Val (m : Nat) (G H : Hp) : V → Prop where
  | flat {v : V} (h : Er.okF v) : Val m G H v
  | tup {p : Addr} {xs : List V} (h : H p = some (.tup xs)) (f : ∀ x ∈ xs, Er.okF x) (l : xs.length ≤ 10) : Val m G H (.ref p)
  | lst {p : Addr} {xs : List V} (n : NF G p) (h : H p = some (.lst xs)) (s : (∃ q r, xs = .int 0 :: .ref q :: r) ∨ ∃ q r, xs = .ref q :: r) (f : ∀ x ∈ xs, Er.refB x = true) (l : xs.length ≤ m) : Val m G H (.ref p)
  | dK {p : Addr} {kvs : List (Key × V)} (n : NF G p) (h : H p = some (.dK kvs)) (nd : (kvs.map (·.1)).Nodup) (f : ∀ x ∈ kvs, Er.refB x.2 = true) (l : ∀ x ∈ kvs, x.1 ∈ ([Sum.inr "a", Sum.inr "more"] : List Key)) : Val m G H (.ref p)
theorem nb_shape {xs : List V} (s : (∃ q r, xs = .int 0 :: .ref q :: r) ∨ ∃ q r, xs = .ref q :: r) : NB (.lst xs) := fun x y z c h => by
  injection h with h
  rcases s with ⟨q, r, rfl⟩ | ⟨q, r, rfl⟩ <;> cases h
theorem Val.mono {m : Nat} (h : Val m G H v) (e : Ex H H1) : Val m G H1 v := by
  cases h with
  | flat h => exact .flat h
  | tup h f l => exact .tup (e.kp _ _ h NB.tup) f l
  | lst n h s f l => exact .lst n (e.kp _ _ h (nb_shape s)) s f l
  | dK n h nd f l => exact .dK n (e.kp _ _ h NB.dK) nd f l
theorem Val.mono0 {m : Nat} {G0 : Hp} (h : Val m G H v) (e : Ex G0 G) : Val m G0 H v := by
  cases h with
  | flat h => exact .flat h
  | tup h f l => exact .tup h f l
  | lst n h s f l => exact .lst (NF.back e n) h s f l
  | dK n h nd f l => exact .dK (NF.back e n) h nd f l
def sp_Lvalue : Sp := fun vs H Q _ => ∃ b : Addr, vs = [.ref b] ∧ Bag b H ∧ ∀ v H1, Ex H H1 → Val 5 H H1 v → Q v H1
theorem ok_Lvalue (T : Txt K w mg a) : FnOk P w K mg base CX0 3 a.a_Lvalue a.fd_Lvalue ["_law_bag_here"] sp_Lvalue := by
  refine T.F_Lvalue.ok sc_Lvalue (fun vs H Q E h => ?_) (fun cdv A outer s H vs Q E hr h => ?_)
  · obtain ⟨b, rfl, _⟩ := h; rfl
  · obtain ⟨b, rfl, hb, k⟩ := h
    have G_Lone := ok_Lone (P := P) (base := base) T
    refine ⟨_, (pss_cons (ps_set (i := 1) sc_Lvalue.nd rfl (Or.inl rfl) (pe_lst (pa_cons pe_non (pa_cons pe_str (pa_cons (pe_tup (pa_cons pe_str (pa_cons pe_str pa_nil))) (pa_cons (pe_lst (pa_cons pe_int (pa_cons (pe_lst (pa_cons pe_int pa_nil)) pa_nil))) (pa_cons (pe_disp (pps_cons pe_str (pe_lst (pa_cons pe_int pa_nil)) pps_nil) (by rfl) (by rfl) (fun z => by cases z) (by decide)) (pa_cons pe_bl (pa_cons (pe_op op_pow pe_int pe_int) (pa_cons (pe_lst (pa_cons (pe_lst pa_nil) pa_nil)) (pa_cons (pe_tup pa_nil) (pa_cons pe_int (pa_cons pe_bl (pa_cons (pe_un un_neg pe_int) (pa_cons pe_str pa_nil)))))))))))))))
      (pss_one (ps_ret (pe_call G_Lone (hr.mono (by decide)) (by rfl) T.m_Lone T.k_Lone T.b_Lone .nil pass0 (pa_cons (pv 0) (pa_cons (pv 1) pa_nil)))))), ?_⟩
    walk_at "rd"
    rename_i H4 e4 f4 h4
    refine x_disp1 fun pd H5 e5 f5 h5 => ?_
    walk_at "rd"
    refine x_dispS (by walk_at "hk") f5 (by walk_at "ex") fun H6 e6 h6 => ?_
    walk_at "rd"
    rename_i q7 G7 a7 f7 h7 q6 G6 a6 f6 h60 q5 q4 G4 a4 f40 h40 q3 G3 a3 f3 h3 q2 G2 a2 f2 h2 q1 G1 a1 f1 h1 q0 G0 a0 f0 h0
    have x1 : Ex G1 G0 := a0
    have x2 : Ex G2 G0 := a1.trans x1
    have x6 : Ex H6 G0 := a3.trans (a2.trans x2)
    have x4 : Ex H4 G0 := e6.trans x6
    have x7 : Ex G7 G0 := a6.trans (e4.trans x4)
    have y5 : Ex H G6 := a7.trans a6
    have y4 : Ex H H4 := y5.trans e4
    have y3 : Ex H G3 := (y4.trans e6).trans a3
    have vals : ∀ v ∈ [V.non, V.str (Str.ofString ""), V.ref q7, V.ref q5, V.ref pd, V.bl true, V.int (10 ^ Int.toNat 39), V.ref q2, V.ref q1, V.int 0, V.bl false, V.int (-1), V.str (Str.ofString "a")], Val 5 H G0 v := by
      refine Er.All.cons (.flat (by walk_at "okf")) (Er.All.cons (.flat (by walk_at "okf")) (Er.All.cons ?_ (Er.All.cons ?_ (Er.All.cons ?_ (Er.All.cons (.flat (by walk_at "okf")) (Er.All.cons (.flat (by walk_at "okf")) (Er.All.cons ?_ (Er.All.cons ?_ (Er.All.cons (.flat (by walk_at "okf")) (Er.All.cons (.flat (by walk_at "okf")) (Er.All.cons (.flat (by walk_at "okf")) (Er.All.cons (.flat (by walk_at "okf")) Er.All.nil))))))))))))
      · exact Val.mono (.tup h7 (by walk_at "okf") (by decide)) x7
      · exact Val.mono (.lst (NF.new y5 f4) h4 (.inl ⟨_, _, rfl⟩) (Er.All.cons rfl (Er.All.cons rfl Er.All.nil)) (Nat.le_of_ble_eq_true rfl)) x4
      · exact Val.mono (.dK (NF.new y4 f5) h6 (by simp) (Er.All.cons rfl Er.All.nil) (Er.All.cons (.head _) Er.All.nil)) x6
      · exact Val.mono (.lst (NF.new y3 f2) h2 (.inr ⟨_, _, rfl⟩) (Er.All.cons rfl Er.All.nil) (Nat.le_of_ble_eq_true rfl)) x2
      · exact Val.mono (.tup h1 Er.All.nil (by decide)) x1
    refine u_Lone (((y3.trans a2).trans x2).bag hb) h0 (NB.len (by simp)) (by simp) (by simp) fun v K1 aK hv => ?_
    exact k v K1 (((y3.trans a2).trans (a1.trans a0)).trans aK) ((vals v hv).mono aK)
end
end My

set_option Elab.async false
set_option linter.all false
set_option maxRecDepth 100000
set_option maxHeartbeats 8000000
namespace My
open PySem PySem.Spec PyProof.Rows L2 Sx
local macro_rules | `(tactic| walk_at "nb") => `(tactic| first | exact NB.tup | exact NB.ints | exact NB.len (of_decide_eq_true rfl) | exact NB.at0b rfl | exact NB.at3b rfl | exact NB.ins | exact NB.own | exact NB.frz | exact NB.refs (by assumption) | assumption)
local macro_rules | `(tactic| walk_at "ne") => `(tactic| first | assumption | exact Ne.symm (by assumption) | exact ne_of_none (by assumption) (by assumption) | exact Ne.symm (ne_of_none (by assumption) (by assumption)))
local macro_rules | `(tactic| walk_at "hk") => `(tactic| first
  | assumption
  | exact upd_same
  | (refine' (upd_ne ?hkne).trans ?hkq; (case hkne => walk_at "ne"); (case hkq => walk_at "hk"))
  | (refine' Ex.kp (by assumption) _ _ ?hkq ?hkn; (case hkq => walk_at "hk"); (case hkn => walk_at "nb")))
local macro_rules | `(tactic| walk_at "rd1") => `(tactic| first
  | ((with_reducible refine' x_var ?hx ?_); (case hx => exact rfl))
  | with_reducible refine x_c ?_
  | with_reducible refine x_op ?_
  | with_reducible refine x_un ?_
  | with_reducible refine x_I0 ?_
  | with_reducible refine x_U ?_
  | ((with_reducible refine x_I ?hc ?_); (case hc => first | exact (by decide : (0 : Int) < _) | (show (0 : Int) < _; omega) | (show CMul _ _; first | exact .inl ⟨by omega, by omega⟩ | exact .inr ⟨by omega, by omega⟩) | (show CDiv _ _; exact ⟨by omega, by omega⟩) | (show CDivW _ _; exact wide_div (b := 200) (by omega) (by assumption) (by decide) (by decide)) | (show CDivW _ _; exact wide_div (b := 31) (by omega) (by omega) (by decide) (by decide))))
  | with_reducible refine x_EqI ?_
  | with_reducible refine x_NeI ?_
  | ((with_reducible refine x_EqSt ?h ?_); (case h => decide +kernel))
  | ((with_reducible refine x_EqSf ?h ?_); (case h => decide +kernel))
  | ((with_reducible refine x_NeSt ?h ?_); (case h => decide +kernel))
  | ((with_reducible refine x_NeSf ?h ?_); (case h => decide +kernel))
  | with_reducible refine x_EqS ?_
  | with_reducible refine x_NeS ?_
  | ((with_reducible refine' x_ixL ?hq ?hi ?_); (case hq => walk_at "hk"); (case hi => first | exact rfl | assumption))
  | ((with_reducible refine' x_ixT ?hq ?hi ?_); (case hq => walk_at "hk"); (case hi => first | exact rfl | assumption))
  | with_reducible refine x_chain ?_
  | with_reducible refine x_tup ?_
  | with_reducible refine x_lst ?_
  | ((with_reducible refine x_lenNew ?hl ?_); (case hl => exact Nat.le_of_ble_eq_true rfl); intro _ _ _ _ _)
  | ((with_reducible refine x_new ?_); intro _ _ _ _ _)
  | with_reducible refine x_sl ?_
  | with_reducible refine x_noPart ?_
  | with_reducible refine x_part ?_
  | with_reducible refine x_ex_int ?_
  | with_reducible refine x_ex_bl ?_
  | with_reducible refine x_ex_2 ?_
  | with_reducible refine x_test ?_
  | with_reducible refine x_B ?_
  | with_reducible refine x_and ?_
  | with_reducible refine x_or ?_
  | with_reducible refine x_not ?_
  | with_reducible refine x_andV ?_
  | with_reducible refine x_orV ?_
  | with_reducible refine x_notV ?_
  | with_reducible refine x_ifE ?_
  | with_reducible refine x_iteT ?_
  | with_reducible refine x_iteF ?_
  | ((with_reducible refine x_iteD ?_ ?_) <;> intro _)
  | ((with_reducible refine x_iteN ?_ ?_) <;> intro _)
  | with_reducible refine x_if ?_
  | with_reducible refine x_seq ?_
  | with_reducible refine x_next ?_
  | with_reducible refine x_asg ?_
  | with_reducible refine x_gName ?_
  | ((with_reducible refine' x_gTup ?hq ?hn ?_); (case hq => walk_at "hk"); (case hn => exact rfl))
  | with_reducible refine x_gCons ?_
  | with_reducible refine x_gNil ?_
  | ((with_reducible refine' x_gConsE ?h ?_); (case h => exact rfl))
  | ((with_reducible refine x_gNilE ?h ?_); (case h => exact rfl))
  | with_reducible refine x_ret ?_
  | with_reducible refine x_drop ?_
  | with_reducible refine x_par ?_
  | ((with_reducible refine' x_aug ?hx ?_); (case hx => exact rfl))
  | with_reducible refine x_ipI ?_
  | with_reducible refine x_augS ?_
  | with_reducible refine x_gSub ?_
  | ((with_reducible refine' x_setL ?hq ?hi ?_); (case hq => walk_at "hk"); (case hi => first | exact rfl | assumption))
  | with_reducible refine x_cons ?_
  | with_reducible refine x_nil ?_
  | with_reducible refine x_CB ?_
  | with_reducible refine x_abs ?_
  | with_reducible refine x_intI ?_
  | with_reducible refine x_intB ?_
  | ((with_reducible refine' x_lenL ?hq ?_); (case hq => walk_at "hk"))
  | ((with_reducible refine' x_lenT ?hq ?_); (case hq => walk_at "hk"))
  | ((with_reducible refine x_iteTe ?h ?_); (case h => exact rfl))
  | ((with_reducible refine x_iteFe ?h ?_); (case h => exact rfl))
  | walk_at "use"
  | with_reducible refine x_callS ?_
  | ((with_reducible refine x_lc ?_))
  | ((with_reducible refine x_for ?_))
  | ((with_reducible refine x_iR1 ?_))
  | ((with_reducible refine x_iL ?_))
  | ((with_reducible refine x_iZ ?_))
  | ((with_reducible refine x_yes ?_))
  | ((with_reducible refine' x_NIDt ?hq ?_); (case hq => assumption))
  | ((with_reducible refine' x_NIDf ?hq ?_); (case hq => assumption))
  | ((with_reducible refine' x_IIDf ?hq ?_); (case hq => assumption))
  | ((with_reducible refine' x_IIDt ?hq ?_); (case hq => assumption))
  | ((with_reducible refine' x_ixDs ?hd ?hq ?_); (case hd => assumption); (case hq => assumption))
  | ((with_reducible refine x_InSt ?h ?_); (case h => decide +kernel))
  | ((with_reducible refine x_InSf ?h ?_); (case h => decide +kernel))
  | ((with_reducible refine' x_notInI ?hq ?_); (case hq => walk_at "hk"))
  | ((with_reducible refine' x_inTt ?hq ?hv ?ha ?he ?_); (case hq => walk_at "hk"); (case hv => exact rfl); (case ha => exact rfl); (case he => decide +kernel))
  | ((with_reducible refine' x_inTf ?hq ?hv ?ha ?he ?_); (case hq => walk_at "hk"); (case hv => exact rfl); (case ha => exact rfl); (case he => decide +kernel))
  | ((with_reducible refine' x_slT ?hq ?hw ?_); (case hq => walk_at "hk"); (case hw => with_unfolding_all exact of_decide_eq_true rfl))
  | ((with_reducible refine' x_slL ?hq ?_); (case hq => walk_at "hk"))
  | ((with_reducible refine' x_catT ?hq ?hr ?n1 ?n2 ?hl ?_); (case hq => walk_at "hk"); (case hr => walk_at "hk"); (case n1 => exact List.cons_ne_nil _ _); (case n2 => exact List.cons_ne_nil _ _); (case hl => exact Nat.le_of_ble_eq_true rfl))
  | ((with_reducible refine x_bm ?_))
  | ((with_reducible refine x_lstRg ?_))
  | ((with_reducible refine x_rg1 ?_))
  | ((with_reducible refine And.intro ?h ?_); (case h => exact tyL (by assumption)))
  | dsimp only)
local macro_rules | `(tactic| walk_at "use") => `(tactic| fail)
local macro_rules | `(tactic| walk_at "rd") => `(tactic| repeat' (walk_at "rd1"))
local macro_rules | `(tactic| walk_at "ex") => `(tactic| first | exact Ex.refl _ | assumption | (refine' Ex.trans ?he (by assumption); (case he => walk_at "ex")))
local macro_rules | `(tactic| walk_at "rd1") => `(tactic| first
  | ((with_reducible refine x_iteDf ?h ?_); (case h => exact rfl))
  | ((with_reducible refine x_iteDt ?h ?_); (case h => exact rfl))
  | ((with_reducible refine x_iteNf ?h ?_); (case h => exact rfl))
  | ((with_reducible refine x_iteNt ?h ?_); (case h => exact rfl))
  | ((with_reducible refine x_isiI (r := true) ?h ?_); (case h => decide +kernel))
  | ((with_reducible refine x_isiI (r := false) ?h ?_); (case h => decide +kernel))
  | ((with_reducible refine x_isiS (r := true) ?h ?_); (case h => decide +kernel))
  | ((with_reducible refine x_isiS (r := false) ?h ?_); (case h => decide +kernel))
  | ((with_reducible refine x_isiB (r := true) ?h ?_); (case h => decide +kernel))
  | ((with_reducible refine x_isiB (r := false) ?h ?_); (case h => decide +kernel))
  | ((with_reducible refine' x_isiT (r := true) ?hp ?h ?_); (case hp => walk_at "hk"); (case h => decide +kernel))
  | ((with_reducible refine' x_isiT (r := false) ?hp ?h ?_); (case hp => walk_at "hk"); (case h => decide +kernel))
  | ((with_reducible refine' x_isiL (r := true) ?hp ?h ?_); (case hp => walk_at "hk"); (case h => decide +kernel))
  | ((with_reducible refine' x_isiL (r := false) ?hp ?h ?_); (case hp => walk_at "hk"); (case h => decide +kernel))
  | ((with_reducible refine' x_isi2L ?hp ?hl ?_); (case hp => walk_at "hk"); (case hl => walk_at "hk"))
  | ((with_reducible refine' x_isi2T ?hp ?hl ?_); (case hp => walk_at "hk"); (case hl => walk_at "hk"))
  | ((with_reducible refine' x_tupOfL ?hq ?_); (case hq => walk_at "hk"))
  | ((with_reducible refine' x_tupOfT ?hq ?_); (case hq => walk_at "hk"))
  | ((with_reducible refine x_lenS ?h ?_); (case h => exact Nat.le_of_ble_eq_true rfl))
  | ((with_reducible refine' x_all ?hq ?_); (case hq => walk_at "hk"))
  | with_reducible refine x_lenSet ?_)
local macro_rules | `(tactic| walk_at "nb") => `(tactic| first | exact NB.xd | exact NB.dK)
local macro_rules | `(tactic| walk_at "rd1") => `(tactic| first
  | with_reducible refine Er.x_par3 ?_
  | with_reducible refine Er.x_ex_3 ?_
  | with_reducible refine Er.x_revL0 ?_
  | ((with_reducible refine' Er.x_revL ?hq ?_); (case hq => walk_at "hk"))
  | with_reducible refine Er.x_dget2 ?_
  | with_reducible refine x_dict0 ?_
  | ((with_reducible refine x_pow ?hc ?_); (case hc => exact ⟨by decide, by decide, by decide⟩))
  | ((with_reducible refine And.intro ?h ?_); (case h => exact tyL (by walk_at "hk")))
  | ((with_reducible refine' Er.x_dis ?hq ?_); (case hq => walk_at "hk"))
  | ((with_reducible refine' Er.x_dgo ?hq ?he ?_); (case hq => walk_at "hk"); (case he => exact rfl)))
local macro_rules | `(tactic| walk_at "rd1") => `(tactic| first
  | with_reducible refine Er.x_callSS ?_
  | ((with_reducible refine Er.x_mulS2 ?h ?h0 ?h1 ?_); (case h => decide); (case h0 => decide); (case h1 => decide)))
local macro_rules | `(tactic| walk_at "rd1") => `(tactic| first
  | with_reducible refine Er.x_iR2 ?_
  | with_reducible refine Er.x_iEn ?_
  | with_reducible refine Er.x_cont ?_
  | ((with_reducible refine Er.x_isBt ?h ?_); (case h => exact rfl))
  | ((with_reducible refine Er.x_isBf ?h ?_); (case h => exact rfl))
  | ((with_reducible refine Er.x_isNBt ?h ?_); (case h => exact rfl))
  | ((with_reducible refine Er.x_isNBf ?h ?_); (case h => exact rfl))
  | with_reducible refine Er.x_isB ?_
  | with_reducible refine Er.x_isNB ?_)
local macro_rules | `(tactic| walk_at "nb") => `(tactic| exact NB.dT)
local macro_rules | `(tactic| walk_at "rd1") => `(tactic| first
  | with_reducible refine Er.x_dNotIn ?_
  | with_reducible refine Er.x_dPut ?_
  | with_reducible refine Er.x_dnewT ?_)

local macro_rules | `(tactic| walk_at "ev") => `(tactic| first | assumption | (refine' Er.ErrV.mono ?hev ?eev; (case hev => assumption); (case eev => walk_at "ex")))
local macro_rules | `(tactic| walk_at "rd1") => `(tactic| first
  | (with_reducible refine' Er.x_er ?_)
  | (with_reducible refine' Er.x_eff ?_)
  | ((with_reducible refine' x_cat ?h ?h' ?l ?_); (case h => walk_at "hk"); (case h' => walk_at "hk"); (case l => exact Nat.le_trans (show _ ≤ 1000 from Nat.le_of_ble_eq_true rfl) (by decide)))
  | ((with_reducible refine' Er.x_er1 ?t ?_); (case t => assumption); intro _ _ _ _)
  | ((with_reducible refine' Er.x_er2 ?t ?_); (case t => assumption); intro _ _ _ _)
  | ((with_reducible refine' Er.x_er0 ?t ?_); (case t => assumption); intro _ _ _ _)
  | ((with_reducible refine' Er.x_isE ?h ?hk ?_); (case h => walk_at "ev"); (case hk => assumption))
  | ((with_reducible refine' Er.x_efk ?h ?hno ?l ?_); (case h => walk_at "ev"); (case hno => assumption); (case l => rfl)))
local macro_rules | `(tactic| walk_at "rd1") => `(tactic| with_reducible refine x_iT ?_)
local macro_rules | `(tactic| walk_at "rd1") => `(tactic| ((with_reducible refine' Er.x_isEv ?h ?hk ?_); (case h => walk_at "ev"); (case hk => assumption)))
local macro_rules | `(tactic| walk_at "bg") => `(tactic| first | assumption | exact Ex.bag (by assumption) (by walk_at "bg"))
section
variable {P : Program} {w : World} {K : PySem.W.Frag} {mg : Str → Option Value} {base : Heap} {a : Ad} {H H1 G : Hp} {Q : VK} {E : XK} {p b e : Addr} {v u x y : V} {xs : List V}
open Er
theorem ErrV.upd {o o' : HO} {c : Addr} {fs : List (Str × V)} (h : ErrV K H v c fs) (hp : H p = some o) (ho : ∀ a C d, o ≠ exo a C d) (hd : ∀ a fs, o ≠ exd a fs) : ErrV K (upd H p o') v c fs := by
  obtain ⟨t, a, rfl, h⟩ := h
  have ne : ∀ {b : Addr} {u : HO}, H b = some u → o ≠ u → b ≠ p := fun hb n z => by rw [z, hp] at hb; exact n (Option.some.inj hb)
  refine ⟨t, a, rfl, ?_⟩
  rcases h with ⟨z, h⟩ | ⟨dd, h1, h2⟩
  · exact .inl ⟨z, by rw [upd_ne (ne h (ho _ _ _))]; exact h⟩
  · exact .inr ⟨dd, by rw [upd_ne (ne h1 (ho _ _ _))]; exact h1, by rw [upd_ne (ne h2 (hd _ _))]; exact h2⟩
theorem Errs.at {l : List (Addr × List (Str × V))} {i : Nat} {c : Addr} {fs : List (Str × V)} (h : Errs K H xs l) (hl : l[i]? = some (c, fs)) : ∃ p, xs[i]? = some (.ref p) ∧ ErrV K H (.ref p) c fs := by
  induction h generalizing i with
  | nil => cases hl
  | cons h _ ih =>
    cases i with
    | zero => cases hl; exact ⟨_, rfl, h⟩
    | succ i => exact ih hl
theorem Errs.len {l : List (Addr × List (Str × V))} (h : Errs K H xs l) : xs.length = l.length := by
  induction h with
  | nil => rfl
  | cons _ _ ih => simp [ih]
theorem x_neY {m : Nat} (h : Val m G H y) (k : Q (.bl false) H) : Er.rNeX K y y H Q := by
  have fin : ∀ {d : PyData} {b : Nat}, DN H d y → Sml b 1 d → Er.rNeX K y y H Q := fun {d b} hd sd => by
    refine .inl ⟨d, d, DN.dp _ _ hd, DN.dp _ _ hd, Er.shaped_sml sd (by decide), Er.shaped_sml sd (by decide), ?_⟩
    rw [SeqAt.eqv_refl _ sd.lay]
    exact k
  cases h with
  | flat h => exact fin h.dn (h.sml.up (Nat.le_refl _) (by decide))
  | @tup p ys h f l => exact fin (Er.dnTup h (Er.dns_map f)) (Sml.tup (b := 10) (e := 0) (n := 10) (fun d m => by obtain ⟨v, hv, rfl⟩ := List.mem_map.mp m; exact (f v hv).sml) (by simp; omega))
  | lst n h sh f l => exact .inr (.inl ⟨_, _, _, rfl, rfl, SqL.of h, SqL.of h, f, k⟩)
  | dK n h nd f l => exact .inr (.inr ⟨_, _, rfl, rfl, h, nd, f, k⟩)
theorem lst_exo {ys : List V} : ∀ a C d, HO.lst ys ≠ exo a C d := fun a C d z => by
  have z' : HO.lst _ = HO.ext _ := z
  cases z'
theorem lst_exd {ys : List V} : ∀ a fs, HO.lst ys ≠ exd a fs := fun a C z => by
  have z' : HO.lst _ = HO.ext _ := z
  cases z'
theorem dK_exo {ys : List (Key × V)} : ∀ a C d, HO.dK ys ≠ exo a C d := fun a C d z => by
  have z' : HO.dK _ = HO.ext _ := z
  cases z'
theorem dK_exd {ys : List (Key × V)} : ∀ a fs, HO.dK ys ≠ exd a fs := fun a C z => by
  have z' : HO.dK _ = HO.ext _ := z
  cases z'
theorem Errs.upd {o o' : HO} {l : List (Addr × List (Str × V))} (h : Errs K H xs l) (hp : H p = some o) (ho : ∀ a C d, o ≠ exo a C d) (hd : ∀ a fs, o ≠ exd a fs) : Errs K (upd H p o') xs l := by
  induction h with
  | nil => exact .nil
  | cons h _ ih => exact .cons (ErrV.upd h hp ho hd) ih
theorem Val.updL {m : Nat} {ys : List V} {z : Str} (h : Val m G H v) (hp : H p = some (.lst ys)) : Val (m + 1) G (upd H p (.lst (ys ++ [.str z]))) v := by
  cases h with
  | flat h => exact .flat h
  | @tup q xs h f l => exact .tup (by rw [upd_ne (fun e => by rw [e, hp] at h; cases h)]; exact h) f l
  | @lst q xs n h s f ln =>
    by_cases e : q = p
    · subst e
      rw [hp] at h
      cases h
      refine .lst n upd_same ?_ (fun x m => ?_) (by simp; omega)
      · rcases s with ⟨q, r, rfl⟩ | ⟨q, r, rfl⟩
        · exact .inl ⟨_, _, rfl⟩
        · exact .inr ⟨_, _, rfl⟩
      · rcases List.mem_append.mp m with m | m
        · exact f x m
        · rw [List.mem_singleton.mp m]; rfl
    · exact .lst n (by rw [upd_ne e]; exact h) s f (by omega)
  | @dK q kvs n h nd f l => exact .dK n (by rw [upd_ne (fun e => by rw [e, hp] at h; cases h)]; exact h) nd f l
theorem put_keys {kvs : List (Key × V)} {k : Key} {u : V} (nd : (kvs.map (·.1)).Nodup) (f : ∀ x ∈ kvs, Er.refB x.2 = true) (hu : Er.refB u = true) : ((putK kvs k u).map (·.1)).Nodup ∧ (∀ x ∈ putK kvs k u, Er.refB x.2 = true) ∧ (putK kvs k u).length ≤ kvs.length + 1 := by
  unfold putK
  split
  · refine ⟨?_, fun x mx => ?_, by simp⟩
    · rw [List.map_map]
      have : ((fun x : Key × V => x.1) ∘ fun kv : Key × V => if kv.1 = k then (kv.1, u) else kv) = (·.1) := by
        funext kv
        simp only [Function.comp]
        split <;> rfl
      rw [this]
      exact nd
    · obtain ⟨kv, mk, rfl⟩ := List.mem_map.mp mx
      split
      · exact hu
      · exact f _ mk
  · rename_i no
    refine ⟨?_, fun x m => ?_, by simp⟩
    · rw [List.map_append, List.nodup_append]
      refine ⟨nd, by simp, fun x hx y hy e => no ?_⟩
      obtain ⟨kv, m, rfl⟩ := List.mem_map.mp hx
      rw [List.map_singleton, List.mem_singleton] at hy
      exact List.any_eq_true.mpr ⟨kv, m, by simpa using e.trans hy⟩
    · rcases List.mem_append.mp m with m | m
      · exact f x m
      · rw [List.mem_singleton.mp m]; exact hu
theorem put_sub {kvs : List (Key × V)} {u : V} (l : ∀ x ∈ kvs, x.1 ∈ ([Sum.inr "a", Sum.inr "more"] : List Key)) {x : Key × V} (m : x ∈ putK kvs (Sum.inr "more") u) : x.1 ∈ ([Sum.inr "a", Sum.inr "more"] : List Key) := by
  unfold putK at m
  split at m
  · obtain ⟨kv, mk, rfl⟩ := List.mem_map.mp m
    split
    · exact l kv mk
    · exact l _ mk
  · rcases List.mem_append.mp m with m | m
    · exact l _ m
    · rw [List.mem_singleton.mp m]; exact .tail _ (.head _)
theorem two_len {kvs : List (Key × V)} (nd : (kvs.map (·.1)).Nodup) (l : ∀ x ∈ kvs, x.1 ∈ ([Sum.inr "a", Sum.inr "more"] : List Key)) : kvs.length ≤ 2 := by
  rcases kvs with _ | ⟨x, _ | ⟨y, _ | ⟨z, r⟩⟩⟩
  · simp
  · simp
  · simp
  · exfalso
    have hx := l x (by simp)
    have hy := l y (by simp)
    have hz := l z (by simp)
    simp only [List.map_cons, List.nodup_cons, List.mem_cons, not_or] at nd
    simp only [List.mem_cons, List.not_mem_nil, or_false] at hx hy hz
    obtain ⟨⟨a1, a2, _⟩, ⟨a3, _⟩, _⟩ := nd
    rcases hx with hx | hx <;> rcases hy with hy | hy <;> rcases hz with hz | hz <;> rw [hx] at a1 a2 <;> rw [hy] at a1 a3 <;> rw [hz] at a2 a3 <;> first | exact a1 rfl | exact a2 rfl | exact a3 rfl
theorem Val.updD {m : Nat} {ks : List (Key × V)} {i : Int} (h : Val m G H v) (hp : H p = some (.dK ks)) : Val (m + 1) G (upd H p (.dK (putK ks (Sum.inr "more") (.int i)))) v := by
  cases h with
  | flat h => exact .flat h
  | @tup q xs h f l => exact .tup (by rw [upd_ne (fun e => by rw [e, hp] at h; cases h)]; exact h) f l
  | @lst q xs n h s f ln => exact .lst n (by rw [upd_ne (fun e => by rw [e, hp] at h; cases h)]; exact h) s f (by omega)
  | @dK q kvs n h nd f l =>
    by_cases e : q = p
    · subst e
      rw [hp] at h
      cases h
      obtain ⟨a1, a2, a3⟩ := put_keys (k := Sum.inr "more") (u := .int i) nd f rfl
      exact .dK n upd_same a1 a2 fun x m => put_sub l m
    · exact .dK n (by rw [upd_ne e]; exact h) nd f l
theorem Val.le {m k : Nat} (h : Val m G H v) (l : m ≤ k) : Val k G H v := by
  cases h with
  | flat h => exact .flat h
  | tup h f l => exact .tup h f l
  | lst n h s f ln => exact .lst n h s f (by omega)
  | dK n h nd f l => exact .dK n h nd f l
/-- where a turn stands: the errors, the two values -/
structure Sit (m : Nat) (K : PySem.W.Frag) (G H : Hp) (e : Addr) (xs : List V) (l : List (Addr × List (Str × V))) (x y : V) : Prop where
  g : Ex G H
  he : H e = some (.lst xs)
  er : Errs K H xs l
  vx : Val m G H x
  vy : Val m G H y
theorem Sit.ex {m : Nat} {l : List (Addr × List (Str × V))} (s : Sit m K G H e xs l x y) (nb : NB (.lst xs)) (f : Ex H H1) : Sit m K G H1 e xs l x y := ⟨s.g.trans f, f.kp _ _ s.he nb, s.er.mono f, s.vx.mono f, s.vy.mono f⟩
theorem Sit.le {m k : Nat} {l : List (Addr × List (Str × V))} (s : Sit m K G H e xs l x y) (h : m ≤ k) : Sit k K G H e xs l x y := ⟨s.g, s.he, s.er, s.vx.le h, s.vy.le h⟩
theorem Sit.updL {m : Nat} {l : List (Addr × List (Str × V))} {ys : List V} {z : Str} (s : Sit m K G H e xs l x y) (n : NF G p) (hp : H p = some (.lst ys)) (nb : NB (.lst ys)) (ne : p ≠ e) : Sit (m + 1) K G (upd H p (.lst (ys ++ [.str z]))) e xs l x y :=
  ⟨Er.mutN s.g n hp nb, by rw [upd_ne (Ne.symm ne)]; exact s.he, s.er.upd hp lst_exo lst_exd, s.vx.updL hp, s.vy.updL hp⟩
theorem Sit.updD {m : Nat} {l : List (Addr × List (Str × V))} {ks : List (Key × V)} {i : Int} (s : Sit m K G H e xs l x y) (n : NF G p) (hp : H p = some (.dK ks)) (ne : p ≠ e) : Sit (m + 1) K G (upd H p (.dK (putK ks (Sum.inr "more") (.int i)))) e xs l x y :=
  ⟨Er.mutO s.g n hp NB.dK, by rw [upd_ne (Ne.symm ne)]; exact s.he, s.er.upd hp dK_exo dK_exd, s.vx.updD hp, s.vy.updD hp⟩
theorem ne_val {m : Nat} (h : Val m G H v) (n : NF H e) : ∀ p, v = .ref p → p ≠ e := fun p ev ep => by
  subst ev
  subst ep
  cases h with
  | tup h f l => exact n _ NB.tup h
  | lst _ h s f _ => exact n _ (nb_shape s) h
  | dK _ h nd f l => exact n _ NB.dK h
  | flat h => cases h
def sp_law (K : PySem.W.Frag) : Sp := fun vs H Q _ => ∃ (a : Addr) (ns : List Int), vs = [.ref a] ∧ SqL K H a (ns.map V.int) ∧ ns.length ≤ 63 ∧ ∀ H', Q (.bl true) H'
theorem law_start {ns : List Int} {s : Addr} (hl : ns.length ≤ 63) (hS : SqL K H s (ns.map V.int)) : sp_law K [.ref s] H (fun v _ => v = .bl true) E := ⟨s, ns, rfl, hS, hl, fun _ => rfl⟩
theorem ok_law (T : Txt K w mg a) : FnOk P w K mg base CX0 4 a.a_law a.fd_law ["_law_script"] (sp_law K) := by
  refine T.F_law.ok sc_law (fun vs H Q E h => ?_) (fun cdv A outer s H vs Q E hr h => ?_)
  · obtain ⟨s, ns, rfl, _⟩ := h; rfl
  · obtain ⟨s0, ns, rfl, hs, hl, k⟩ := h
    have G_Lbag := ok_Lbag (P := P) (base := base) T
    have G_Lvalue := ok_Lvalue (P := P) (base := base) T
    have G_Lerrors := ok_Lerrors (P := P) (base := base) T
    have G_Lflags := ok_Lflags (P := P) (base := base) T
    have G_Lfields := ok_Lfields (P := P) (base := base) T
    have N_mod := T.N_NoOrder_modulus
    refine ⟨_, (pss_cons (ps_set (i := 1) sc_law.nd rfl (Or.inl rfl) (pe_call G_Lbag (hr.mono (by decide)) (by rfl) T.m_Lbag T.k_Lbag T.b_Lbag .nil pass0 (pa_cons (pv 0) pa_nil)))
      (pss_cons (ps_for PassesOwn.never rfl (pi_range1 (by rfl) T.n_range (pa_cons pe_int pa_nil)) (pg_name (i := 2) sc_law.nd rfl (Or.inl rfl)) (pss_cons (ps_par (i := 3) (j := 4) rfl sc_law.nd rfl rfl (by decide) rfl rfl (pa_cons (pe_call G_Lvalue (hr.mono (by decide)) (by rfl) T.m_Lvalue T.k_Lvalue T.b_Lvalue .nil pass0 (pa_cons (pv 1) pa_nil)) (pa_cons (pe_call G_Lvalue (hr.mono (by decide)) (by rfl) T.m_Lvalue T.k_Lvalue T.b_Lvalue .nil pass0 (pa_cons (pv 1) pa_nil)) pa_nil)) rfl)
      (pss_cons (ps_set (i := 5) sc_law.nd rfl (Or.inl rfl) (pe_call G_Lerrors (hr.mono (by decide)) (by rfl) T.m_Lerrors T.k_Lerrors T.b_Lerrors .nil pass0 (pa_cons (pv 3) (pa_cons (pv 4) pa_nil))))
      (pss_cons (ps_for PassesOwn.never rfl (pi_tup (pe_tup (pa_cons (pv 3) (pa_cons (pv 4) pa_nil)))) (pg_name (i := 6) sc_law.nd rfl (Or.inl rfl)) (pss_cons (ps_if (pt_val (pe_callB call_isi (by rfl) T.n_isinstance (by decide +kernel) (pa_cons (pv 6) (pa_cons (pe_bltn (v := .ty "list") (u := .type "list") (by rfl) T.n_list (by decide +kernel) rfl) pa_nil)))) (pss_one (ps_expr (pe_bm PySem.F.plainAttrs_list PySem.F.slot_list_append PySem.F.type_list_append mt_append (pv 6) (pa_cons pe_str pa_nil)))) pss_nil)
      (pss_one (ps_if (pt_val (pe_callB call_isi (by rfl) T.n_isinstance (by decide +kernel) (pa_cons (pv 6) (pa_cons (pe_bltn (v := .ty "dict") (u := .type "dict") (by rfl) T.n_dict (by decide +kernel) rfl) pa_nil)))) (pss_one (ps_asg pe_int (pg_sub (pv 6) pe_str (set_dict (Nat.lt_of_le_of_lt (Nat.add_le_add_left (by decide) _) hr.units))))) pss_nil))))
      (pss_cons (ps_if (PW.pt (pw_or (pt_cmpR (Er.op_neX hr.units) (pe_call G_Lfields (hr.mono (by decide)) (by rfl) T.m_Lfields T.k_Lfields T.b_Lfields .nil pass0 (pa_cons (pv 5) pa_nil)) (pe_op op_rep (pe_lst (pa_cons (pv 3) pa_nil)) pe_int) (nomark _)) (pw_or1 (pt_cmpR (Er.op_neX hr.units) (Er.pe_ef (pe_ix ix_list (pv 5) pe_int (fun _ _ => rfl))) (pv 4) (nomark _))))) (pss_one (ps_ret pe_bl)) pss_nil)
      (pss_one (ps_for PassesOwn.never rfl (pi_enum (by rfl) T.n_enumerate (pa_cons (pv 5) pa_nil)) (pg_tup rfl (pgs_cons (pg_name (i := 7) sc_law.nd rfl (Or.inr rfl)) (pgs_cons (pg_name (i := 8) sc_law.nd rfl (Or.inl rfl)) pgs_nil))) (pss_cons (ps_if (pt_cmpR (Er.op_neX hr.units) (pe_call G_Lflags (hr.mono (by decide)) (by rfl) T.m_Lflags T.k_Lflags T.b_Lflags .nil pass0 (pa_cons (pv 8) pa_nil)) (pe_lc (own := [("_law_k", 9)]) rfl sc_law.nd (pi_range1 (by rfl) T.n_range (pa_cons pe_int pa_nil)) (blkOk_by (own := [("_law_k", 9)]) (N := ["_law_script", "_law_bag_here", "_law_turn", "_law_x", "_law_y", "_law_some", "_law_thing", "_law_at", "_law_e", "_law_k"]) (sc := defScope s_law) (by decide +kernel)) (fun _ _ _ _ _ => (pg_name (i := 9) sc_law.nd rfl (Or.inl rfl) (Or.inr rfl))) (fun _ _ _ _ _ => pts_nil) (fun _ _ _ _ _ => (pe_cmpR op_eq (pv 9) (pv 7) (nomark _)))) (nomark _)) (pss_one (ps_ret pe_bl)) pss_nil)
      (pss_one (ps_if (PW.pt (pw_or (pt_not (pt_val (pe_callB Er.call_isE (by rfl) T.n_isinstance (by decide +kernel) (pa_cons (pv 8) (pa_cons (pe_glob (v := .ref a.c_PupilError) (by rfl) T.m_PupilError rfl) pa_nil))))) (pw_or1 (pt_not (pt_val (pe_callB Er.call_isE (by rfl) T.n_isinstance (by decide +kernel) (pa_cons (pv 8) (pa_cons (pe_bltn (v := .ty "ValueError") (u := .type "ValueError") (by rfl) T.n_ValueError (by decide +kernel) rfl) pa_nil)))))))) (pss_one (ps_ret pe_bl)) pss_nil))))))))))
      (pss_one (ps_ret pe_bl)))), ?_⟩
    walk_at "rd"
    refine u_Lbag hs hl fun b H1 e1 hb => ?_
    walk_at "rd"
    refine for_rng (m := 8) (by decide) (by decide) (fun i σ H' => Bag b H' ∧ ∃ v2 v3 v4 v5 v6 v7 v8 v9 : Option V, σ = [some (.ref s0), some (.ref b), v2, v3, v4, v5, v6, v7, v8, v9]) ⟨hb, _, _, _, _, _, _, _, _, rfl⟩ (fun i σ H2 hi h => ?_) (fun σ H2 h => ?_)
    rotate_left
    · walk_at "rd"
      exact k _
    obtain ⟨hb2, v2, v3, v4, v5, v6, v7, v8, v9, rfl⟩ := h
    clear e1 hb
    walk_at "rd"
    refine ⟨b, rfl, hb2, fun x G1 g1 vx => ?_⟩
    walk_at "rd"
    refine ⟨b, rfl, g1.bag hb2, fun y G2 g2 vy => ?_⟩
    walk_at "rd"
    refine ⟨x, y, rfl, fun e xs G3 g3 ne he nbe er => ?_⟩
    have px := ne_val (vx.mono g2) ne
    have py := ne_val vy ne
    have sit : Sit 5 K H2 G3 e xs (etab a x y) x y := ⟨g1.trans (g2.trans g3), he, er, (vx.mono g2).mono g3, (vy.mono g3).mono0 g1⟩
    clear vx vy ne he er
    walk_at "rd"
    rename_i pt G4 g4 f4 h4
    refine for_tupl h4 (fun j σ H' => Sit (5 + j) K H2 H' e xs (etab a x y) x y ∧ H' pt = some (.tup [x, y]) ∧ ∃ v6 v7 v8 v9 : Option V, σ = [some (.ref s0), some (.ref b), some (.int (i : Int)), some x, some y, some (.ref e), v6, v7, v8, v9]) ⟨sit.ex nbe g4, h4, _, _, _, _, rfl⟩ (fun j σ H' _ h => h.2.1) (fun j v σ G5 hv h => ?_) (fun σ G5 h => ?_)
    · obtain ⟨s5, h5, v6, v7, v8, v9, rfl⟩ := h
      have vv : Val (5 + j) H2 G5 v ∧ ∀ p, v = .ref p → p ≠ e := by
        have m := List.mem_of_getElem? hv
        rcases List.mem_cons.mp m with rfl | m
        · exact ⟨s5.vx, px⟩
        · rw [List.mem_singleton.mp m]; exact ⟨s5.vy, py⟩
      obtain ⟨vv, pv⟩ := vv
      walk_at "rd"
      cases vv with
      | flat hf =>
        obtain ⟨bI, bB, bT, bS, kd⟩ : ∃ bI bB bT bS, Kinds K G5 v bI bB bT false bS false := by
          cases v with
          | int _ => exact ⟨_, _, _, _, .int⟩
          | bl _ => exact ⟨_, _, _, _, .bl⟩
          | non => exact ⟨_, _, _, _, .non⟩
          | str _ => exact ⟨_, _, _, _, .str⟩
          | _ => cases hf
        refine x_isiLst kd ?_
        walk_at "rd"
        refine x_isiDct kd ?_
        walk_at "rd"
        exact ⟨s5.le (by omega), h5, _, _, _, _, rfl⟩
      | @tup p ys hp _ _ =>
        refine x_isiLst (.tup hp) ?_
        walk_at "rd"
        exact ⟨s5.le (by omega), h5, _, _, _, _, rfl⟩
      | @lst p ys n hp sh _ ln =>
        refine x_isiLst (.lst hp) ?_
        walk_at "rd"
        have pt5 : pt ≠ p := fun z => by rw [z, hp] at h5; cases h5
        have s6 := s5.updL (z := "more") n hp (nb_shape sh) (pv p rfl)
        have h6 : (upd G5 p (.lst (ys ++ [.str "more"]))) pt = some (.tup [x, y]) := by rw [upd_ne pt5]; exact h5
        have hj : j < 2 := (List.getElem?_eq_some_iff.mp hv).1
        refine ⟨p, ys, _, rfl, rfl, hp, Nat.lt_of_le_of_lt (show _ ≤ 7 by omega) (by decide), ?_⟩
        have hp6 : (upd G5 p (.lst (ys ++ [.str "more"]))) p = some (.lst (ys ++ [.str "more"])) := upd_same
        generalize upd G5 p (.lst (ys ++ [.str "more"])) = G6 at *
        walk_at "rd"
        exact ⟨s6, h6, _, _, _, _, rfl⟩
      | @dK p ks n hp nd _ l =>
        refine x_isiLst (.dK hp) ?_
        walk_at "rd"
        refine x_isiDct (.dK hp) ?_
        walk_at "rd"
        have pt5 : pt ≠ p := fun z => by rw [z, hp] at h5; cases h5
        have s6 := s5.updD (i := 0) n hp (pv p rfl)
        have h6 : (upd G5 p (.dK (putK ks (Sum.inr "more") (.int 0)))) pt = some (.tup [x, y]) := by rw [upd_ne pt5]; exact h5
        exact ⟨p, _, rfl, DPut.k (k := Sum.inr "more") hp (Nat.lt_of_le_of_lt (two_len nd l) (by decide)), s6, h6, _, _, _, _, rfl⟩
    · obtain ⟨s5, h5, v6, v7, v8, v9, rfl⟩ := h
      walk_at "rd"
      refine ⟨e, xs, x, y, rfl, s5.he, s5.er, fun q G6 g6 h6 => ?_⟩
      have s6 := s5.ex nbe g6
      walk_at "rd"
      rename_i p7 Ga ga fa ha
      refine Ow.x_repL ha (by decide) (by decide) (by simp) fun q2 G7 g7 f7 h7 => ?_
      walk_at "rd"
      have rx : refB x = true := by
        cases s6.vx with
        | flat h => revert h; cases x <;> intro h <;> first | rfl | cases h
        | _ => rfl
      have h6' : G7 q = some (.lst (List.replicate 13 x)) := by
        exact (ga.trans g7).kp _ _ h6 (NB.len (by simp))
      have h7' : G7 q2 = some (.lst (List.replicate 13 x)) := h7
      refine .inr (.inl ⟨q, q2, _, rfl, rfl, SqL.of h6', SqL.of h7', fun v m => by rw [List.eq_of_mem_replicate m]; exact rx, ?_⟩)
      walk_at "rd"
      have s7 := s6.ex nbe (ga.trans g7)
      obtain ⟨p11, e11, v11⟩ := s7.er.at (i := 11) rfl
      refine x_ixL s7.he (at_nat (i := 11) (by decide) e11) ?_
      refine x_efk v11 N_mod rfl ?_
      walk_at "rd"
      refine x_neY s7.vy ?_
      walk_at "rd"
      have hb9 : ∀ H', Sit 7 K H2 H' e xs (etab a x y) x y → Bag b H' := fun H' s => s.g.bag hb2
      refine for_en s7.he (fun j σ H' => Sit 7 K H2 H' e xs (etab a x y) x y ∧ ∃ v6 v7 v8 v9 : Option V, σ = [some (.ref s0), some (.ref b), some (.int (i : Int)), some x, some y, some (.ref e), v6, v7, v8, v9]) ⟨s7, _, _, _, _, rfl⟩ (fun j σ H' _ h => h.1.he) (fun j v σ G8 G9 hv h g9 => ?_) (fun σ G8 h => ?_)
      · obtain ⟨s8, v6, v7, v8, v9, rfl⟩ := h
        have s9 := s8.ex nbe g9
        have hj : j < (etab a x y).length := by rw [← s9.er.len]; exact (List.getElem?_eq_some_iff.mp hv).1
        obtain ⟨⟨c, fs⟩, hl⟩ : ∃ cf, (etab a x y)[j]? = some cf := ⟨_, List.getElem?_eq_getElem hj⟩
        obtain ⟨p9, e9, ev⟩ := s9.er.at hl
        rw [hv] at e9
        cases e9
        have hc : (ecs a)[j]? = some c := by
          show ((etab a x y).map (·.1))[j]? = some c
          rw [List.getElem?_map, hl]
          rfl
        have kP := Er.ka_at T.ka_PupilError (List.mem_of_getElem? hc)
        have kV := Er.ka_at T.ka_VE (List.mem_of_getElem? hc)
        walk_at "rd"
        refine ⟨_, j, c, fs, rfl, hc, ev, fun q9 G10 g10 h10 => ?_⟩
        have s10 := s9.ex nbe g10
        walk_at "rd"
        refine lc_rng (m := 18) (by decide) (by decide) (fun i acc _ => i ≤ 18 ∧ acc = (List.range i).map fun k => V.bl (decide (j = k))) ⟨Nat.zero_le _, rfl⟩ (fun _ _ _ _ _ h => h) (fun i acc _ h => ?_) (fun x => rfl) (fun i2 acc H' hi2 f hI kk k1 k2 => ?_) (fun p10 ys K1 f fp hp hI => ?_)
        · obtain ⟨h1, rfl⟩ := h
          refine ⟨fun x y z c h => ?_, Nat.lt_of_le_of_lt (show _ ≤ 18 by simp; omega) (by decide)⟩
          injection h with h
          have m : V.int x ∈ (List.range i).map fun k => V.bl (decide (j = k)) := by rw [h]; simp
          obtain ⟨_, _, z⟩ := List.mem_map.mp m
          cases z
        · walk_at "rd"
          have de : decide ((i2 : Int) = (j : Int)) = decide (j = i2) := by apply decide_eq_decide.mpr; omega
          rw [de]
          exact k1 _ _ (Ex.refl _) ⟨by omega, by rw [hI.2, List.range_succ, List.map_append]; rfl⟩
        · have s11 := s10.ex nbe f
          have nb18 : NB (.lst ((List.range 18).map fun k => V.bl (decide (j = k)))) := NB.len (by simp)
          have h11 := f.kp _ _ h10 nb18
          have hp' : K1 p10 = some (.lst ((List.range 18).map fun k => V.bl (decide (j = k)))) := by rw [hp, hI.2]; rfl
          refine .inr (.inl ⟨q9, p10, _, rfl, rfl, SqL.of h11, SqL.of hp', fun v m => by obtain ⟨_, _, rfl⟩ := List.mem_map.mp m; rfl, ?_⟩)
          have ev2 := (ev.mono g10).mono f
          walk_at "rd"
          exact ⟨s11, _, _, _, _, rfl⟩
      · obtain ⟨s8, v6, v7, v8, v9, rfl⟩ := h
        walk_at "rd"
        exact ⟨hb9 _ s8, _, _, _, _, _, _, _, _, rfl⟩
end
end My

set_option Elab.async false
set_option linter.all false
set_option maxRecDepth 100000
set_option maxHeartbeats 8000000
namespace My
open PySem PySem.Spec PyProof.Rows L2 Sx
local macro_rules | `(tactic| walk_at "nb") => `(tactic| first | exact NB.tup | exact NB.ints | exact NB.len (of_decide_eq_true rfl) | exact NB.at0b rfl | exact NB.at3b rfl | exact NB.ins | exact NB.own | exact NB.frz | exact NB.refs (by assumption) | assumption)
local macro_rules | `(tactic| walk_at "ne") => `(tactic| first | assumption | exact Ne.symm (by assumption) | exact ne_of_none (by assumption) (by assumption) | exact Ne.symm (ne_of_none (by assumption) (by assumption)))
local macro_rules | `(tactic| walk_at "hk") => `(tactic| first
  | assumption
  | exact upd_same
  | (refine' (upd_ne ?hkne).trans ?hkq; (case hkne => walk_at "ne"); (case hkq => walk_at "hk"))
  | (refine' Ex.kp (by assumption) _ _ ?hkq ?hkn; (case hkq => walk_at "hk"); (case hkn => walk_at "nb")))
local macro_rules | `(tactic| walk_at "rd1") => `(tactic| first
  | ((with_reducible refine' x_var ?hx ?_); (case hx => exact rfl))
  | with_reducible refine x_c ?_
  | with_reducible refine x_op ?_
  | with_reducible refine x_un ?_
  | with_reducible refine x_I0 ?_
  | with_reducible refine x_U ?_
  | ((with_reducible refine x_I ?hc ?_); (case hc => first | exact (by decide : (0 : Int) < _) | (show (0 : Int) < _; omega) | (show CMul _ _; first | exact .inl ⟨by omega, by omega⟩ | exact .inr ⟨by omega, by omega⟩) | (show CDiv _ _; exact ⟨by omega, by omega⟩) | (show CDivW _ _; exact wide_div (b := 200) (by omega) (by assumption) (by decide) (by decide)) | (show CDivW _ _; exact wide_div (b := 31) (by omega) (by omega) (by decide) (by decide))))
  | with_reducible refine x_EqI ?_
  | with_reducible refine x_NeI ?_
  | ((with_reducible refine x_EqSt ?h ?_); (case h => decide +kernel))
  | ((with_reducible refine x_EqSf ?h ?_); (case h => decide +kernel))
  | ((with_reducible refine x_NeSt ?h ?_); (case h => decide +kernel))
  | ((with_reducible refine x_NeSf ?h ?_); (case h => decide +kernel))
  | with_reducible refine x_EqS ?_
  | with_reducible refine x_NeS ?_
  | ((with_reducible refine' x_ixL ?hq ?hi ?_); (case hq => walk_at "hk"); (case hi => first | exact rfl | assumption))
  | ((with_reducible refine' x_ixT ?hq ?hi ?_); (case hq => walk_at "hk"); (case hi => first | exact rfl | assumption))
  | with_reducible refine x_chain ?_
  | with_reducible refine x_tup ?_
  | with_reducible refine x_lst ?_
  | ((with_reducible refine x_lenNew ?hl ?_); (case hl => exact Nat.le_of_ble_eq_true rfl); intro _ _ _ _ _)
  | ((with_reducible refine x_new ?_); intro _ _ _ _ _)
  | with_reducible refine x_sl ?_
  | with_reducible refine x_noPart ?_
  | with_reducible refine x_part ?_
  | with_reducible refine x_ex_int ?_
  | with_reducible refine x_ex_bl ?_
  | with_reducible refine x_ex_2 ?_
  | with_reducible refine x_test ?_
  | with_reducible refine x_B ?_
  | with_reducible refine x_and ?_
  | with_reducible refine x_or ?_
  | with_reducible refine x_not ?_
  | with_reducible refine x_andV ?_
  | with_reducible refine x_orV ?_
  | with_reducible refine x_notV ?_
  | with_reducible refine x_ifE ?_
  | with_reducible refine x_iteT ?_
  | with_reducible refine x_iteF ?_
  | ((with_reducible refine x_iteD ?_ ?_) <;> intro _)
  | ((with_reducible refine x_iteN ?_ ?_) <;> intro _)
  | with_reducible refine x_if ?_
  | with_reducible refine x_seq ?_
  | with_reducible refine x_next ?_
  | with_reducible refine x_asg ?_
  | with_reducible refine x_gName ?_
  | ((with_reducible refine' x_gTup ?hq ?hn ?_); (case hq => walk_at "hk"); (case hn => exact rfl))
  | with_reducible refine x_gCons ?_
  | with_reducible refine x_gNil ?_
  | ((with_reducible refine' x_gConsE ?h ?_); (case h => exact rfl))
  | ((with_reducible refine x_gNilE ?h ?_); (case h => exact rfl))
  | with_reducible refine x_ret ?_
  | with_reducible refine x_drop ?_
  | with_reducible refine x_par ?_
  | ((with_reducible refine' x_aug ?hx ?_); (case hx => exact rfl))
  | with_reducible refine x_ipI ?_
  | with_reducible refine x_augS ?_
  | with_reducible refine x_gSub ?_
  | ((with_reducible refine' x_setL ?hq ?hi ?_); (case hq => walk_at "hk"); (case hi => first | exact rfl | assumption))
  | with_reducible refine x_cons ?_
  | with_reducible refine x_nil ?_
  | with_reducible refine x_CB ?_
  | with_reducible refine x_abs ?_
  | with_reducible refine x_intI ?_
  | with_reducible refine x_intB ?_
  | ((with_reducible refine' x_lenL ?hq ?_); (case hq => walk_at "hk"))
  | ((with_reducible refine' x_lenT ?hq ?_); (case hq => walk_at "hk"))
  | ((with_reducible refine x_iteTe ?h ?_); (case h => exact rfl))
  | ((with_reducible refine x_iteFe ?h ?_); (case h => exact rfl))
  | walk_at "use"
  | with_reducible refine x_callS ?_
  | ((with_reducible refine x_lc ?_))
  | ((with_reducible refine x_for ?_))
  | ((with_reducible refine x_iR1 ?_))
  | ((with_reducible refine x_iL ?_))
  | ((with_reducible refine x_iZ ?_))
  | ((with_reducible refine x_yes ?_))
  | ((with_reducible refine' x_NIDt ?hq ?_); (case hq => assumption))
  | ((with_reducible refine' x_NIDf ?hq ?_); (case hq => assumption))
  | ((with_reducible refine' x_IIDf ?hq ?_); (case hq => assumption))
  | ((with_reducible refine' x_IIDt ?hq ?_); (case hq => assumption))
  | ((with_reducible refine' x_ixDs ?hd ?hq ?_); (case hd => assumption); (case hq => assumption))
  | ((with_reducible refine x_InSt ?h ?_); (case h => decide +kernel))
  | ((with_reducible refine x_InSf ?h ?_); (case h => decide +kernel))
  | ((with_reducible refine' x_notInI ?hq ?_); (case hq => walk_at "hk"))
  | ((with_reducible refine' x_inTt ?hq ?hv ?ha ?he ?_); (case hq => walk_at "hk"); (case hv => exact rfl); (case ha => exact rfl); (case he => decide +kernel))
  | ((with_reducible refine' x_inTf ?hq ?hv ?ha ?he ?_); (case hq => walk_at "hk"); (case hv => exact rfl); (case ha => exact rfl); (case he => decide +kernel))
  | ((with_reducible refine' x_slT ?hq ?hw ?_); (case hq => walk_at "hk"); (case hw => with_unfolding_all exact of_decide_eq_true rfl))
  | ((with_reducible refine' x_slL ?hq ?_); (case hq => walk_at "hk"))
  | ((with_reducible refine' x_catT ?hq ?hr ?n1 ?n2 ?hl ?_); (case hq => walk_at "hk"); (case hr => walk_at "hk"); (case n1 => exact List.cons_ne_nil _ _); (case n2 => exact List.cons_ne_nil _ _); (case hl => exact Nat.le_of_ble_eq_true rfl))
  | ((with_reducible refine x_bm ?_))
  | ((with_reducible refine x_lstRg ?_))
  | ((with_reducible refine x_rg1 ?_))
  | ((with_reducible refine And.intro ?h ?_); (case h => exact tyL (by assumption)))
  | dsimp only)
local macro_rules | `(tactic| walk_at "use") => `(tactic| fail)
local macro_rules | `(tactic| walk_at "rd") => `(tactic| repeat' (walk_at "rd1"))
local macro_rules | `(tactic| walk_at "ex") => `(tactic| first | exact Ex.refl _ | assumption | (refine' Ex.trans ?he (by assumption); (case he => walk_at "ex")))
local macro_rules | `(tactic| walk_at "rd1") => `(tactic| first
  | ((with_reducible refine x_iteDf ?h ?_); (case h => exact rfl))
  | ((with_reducible refine x_iteDt ?h ?_); (case h => exact rfl))
  | ((with_reducible refine x_iteNf ?h ?_); (case h => exact rfl))
  | ((with_reducible refine x_iteNt ?h ?_); (case h => exact rfl))
  | ((with_reducible refine x_isiI (r := true) ?h ?_); (case h => decide +kernel))
  | ((with_reducible refine x_isiI (r := false) ?h ?_); (case h => decide +kernel))
  | ((with_reducible refine x_isiS (r := true) ?h ?_); (case h => decide +kernel))
  | ((with_reducible refine x_isiS (r := false) ?h ?_); (case h => decide +kernel))
  | ((with_reducible refine x_isiB (r := true) ?h ?_); (case h => decide +kernel))
  | ((with_reducible refine x_isiB (r := false) ?h ?_); (case h => decide +kernel))
  | ((with_reducible refine' x_isiT (r := true) ?hp ?h ?_); (case hp => walk_at "hk"); (case h => decide +kernel))
  | ((with_reducible refine' x_isiT (r := false) ?hp ?h ?_); (case hp => walk_at "hk"); (case h => decide +kernel))
  | ((with_reducible refine' x_isiL (r := true) ?hp ?h ?_); (case hp => walk_at "hk"); (case h => decide +kernel))
  | ((with_reducible refine' x_isiL (r := false) ?hp ?h ?_); (case hp => walk_at "hk"); (case h => decide +kernel))
  | ((with_reducible refine' x_isi2L ?hp ?hl ?_); (case hp => walk_at "hk"); (case hl => walk_at "hk"))
  | ((with_reducible refine' x_isi2T ?hp ?hl ?_); (case hp => walk_at "hk"); (case hl => walk_at "hk"))
  | ((with_reducible refine' x_tupOfL ?hq ?_); (case hq => walk_at "hk"))
  | ((with_reducible refine' x_tupOfT ?hq ?_); (case hq => walk_at "hk"))
  | ((with_reducible refine x_lenS ?h ?_); (case h => exact Nat.le_of_ble_eq_true rfl))
  | ((with_reducible refine' x_all ?hq ?_); (case hq => walk_at "hk"))
  | with_reducible refine x_lenSet ?_)
local macro_rules | `(tactic| walk_at "nb") => `(tactic| first | exact NB.xd | exact NB.dK)
local macro_rules | `(tactic| walk_at "rd1") => `(tactic| first
  | with_reducible refine Er.x_par3 ?_
  | with_reducible refine Er.x_ex_3 ?_
  | with_reducible refine Er.x_revL0 ?_
  | ((with_reducible refine' Er.x_revL ?hq ?_); (case hq => walk_at "hk"))
  | with_reducible refine Er.x_dget2 ?_
  | with_reducible refine x_dict0 ?_
  | ((with_reducible refine x_pow ?hc ?_); (case hc => exact ⟨by decide, by decide, by decide⟩))
  | ((with_reducible refine And.intro ?h ?_); (case h => exact tyL (by walk_at "hk")))
  | ((with_reducible refine' Er.x_dis ?hq ?_); (case hq => walk_at "hk"))
  | ((with_reducible refine' Er.x_dgo ?hq ?he ?_); (case hq => walk_at "hk"); (case he => exact rfl)))
local macro_rules | `(tactic| walk_at "rd1") => `(tactic| first
  | with_reducible refine Er.x_callSS ?_
  | ((with_reducible refine Er.x_mulS2 ?h ?h0 ?h1 ?_); (case h => decide); (case h0 => decide); (case h1 => decide)))
local macro_rules | `(tactic| walk_at "rd1") => `(tactic| first
  | with_reducible refine Er.x_iR2 ?_
  | with_reducible refine Er.x_iEn ?_
  | with_reducible refine Er.x_cont ?_
  | ((with_reducible refine Er.x_isBt ?h ?_); (case h => exact rfl))
  | ((with_reducible refine Er.x_isBf ?h ?_); (case h => exact rfl))
  | ((with_reducible refine Er.x_isNBt ?h ?_); (case h => exact rfl))
  | ((with_reducible refine Er.x_isNBf ?h ?_); (case h => exact rfl))
  | with_reducible refine Er.x_isB ?_
  | with_reducible refine Er.x_isNB ?_)
local macro_rules | `(tactic| walk_at "nb") => `(tactic| exact NB.dT)
local macro_rules | `(tactic| walk_at "rd1") => `(tactic| first
  | with_reducible refine Er.x_dNotIn ?_
  | with_reducible refine Er.x_dPut ?_
  | with_reducible refine Er.x_dnewT ?_)

theorem all_mk {l : PySem.W.OpenLaw} {w : World} {K : PySem.W.Frag} {h : Heap} {mg : Str → Option Value} {fa : Addr} (X : K.In h) (G : h.Ns mainGlobals mg) (hfa : mg "law" = some (.ref fa))
    {C_PupilError : Addr} {en_PupilError eq_PupilError : Str} {eN_PupilError : Addr} {eb_PupilError : List Value} {es_PupilError : List Str} {eu_PupilError : List Value} {ea_PupilError : Bool} {ec_PupilError : Option Bool} {ed_PupilError : Option Addr} {k0_PupilError k1_PupilError k2_PupilError k3_PupilError k5_PupilError : Option Value}
    {C_Wrong : Addr} {en_Wrong eq_Wrong : Str} {eN_Wrong : Addr} {eb_Wrong : List Value} {es_Wrong : List Str} {eu_Wrong : List Value} {ea_Wrong : Bool} {ec_Wrong : Option Bool} {ed_Wrong : Option Addr} {k0_Wrong k1_Wrong k2_Wrong k3_Wrong k5_Wrong : Option Value}
    {C_NoCall : Addr} {en_NoCall eq_NoCall : Str} {eN_NoCall : Addr} {eb_NoCall : List Value} {es_NoCall : List Str} {eu_NoCall : List Value} {ea_NoCall : Bool} {ec_NoCall : Option Bool} {ed_NoCall : Option Addr} {k0_NoCall k1_NoCall k2_NoCall k3_NoCall k5_NoCall : Option Value}
    {C_Unlike : Addr} {en_Unlike eq_Unlike : Str} {eN_Unlike : Addr} {eb_Unlike : List Value} {es_Unlike : List Str} {eu_Unlike : List Value} {ea_Unlike : Bool} {ec_Unlike : Option Bool} {ed_Unlike : Option Addr} {k0_Unlike k1_Unlike k2_Unlike k3_Unlike k5_Unlike : Option Value}
    {C_NoPlace : Addr} {en_NoPlace eq_NoPlace : Str} {eN_NoPlace : Addr} {eb_NoPlace : List Value} {es_NoPlace : List Str} {eu_NoPlace : List Value} {ea_NoPlace : Bool} {ec_NoPlace : Option Bool} {ed_NoPlace : Option Addr} {k0_NoPlace k1_NoPlace k2_NoPlace k3_NoPlace k5_NoPlace : Option Value}
    {C_NoPupil : Addr} {en_NoPupil eq_NoPupil : Str} {eN_NoPupil : Addr} {eb_NoPupil : List Value} {es_NoPupil : List Str} {eu_NoPupil : List Value} {ea_NoPupil : Bool} {ec_NoPupil : Option Bool} {ed_NoPupil : Option Addr} {k0_NoPupil k1_NoPupil k2_NoPupil k3_NoPupil k5_NoPupil : Option Value}
    {C_Open : Addr} {en_Open eq_Open : Str} {eN_Open : Addr} {eb_Open : List Value} {es_Open : List Str} {eu_Open : List Value} {ea_Open : Bool} {ec_Open : Option Bool} {ed_Open : Option Addr} {k0_Open k1_Open k2_Open k3_Open k5_Open : Option Value}
    {C_NoWish : Addr} {en_NoWish eq_NoWish : Str} {eN_NoWish : Addr} {eb_NoWish : List Value} {es_NoWish : List Str} {eu_NoWish : List Value} {ea_NoWish : Bool} {ec_NoWish : Option Bool} {ed_NoWish : Option Addr} {k0_NoWish k1_NoWish k2_NoWish k3_NoWish k5_NoWish : Option Value}
    {C_NoStep : Addr} {en_NoStep eq_NoStep : Str} {eN_NoStep : Addr} {eb_NoStep : List Value} {es_NoStep : List Str} {eu_NoStep : List Value} {ea_NoStep : Bool} {ec_NoStep : Option Bool} {ed_NoStep : Option Addr} {k0_NoStep k1_NoStep k2_NoStep k3_NoStep k5_NoStep : Option Value}
    {C_NoClaim : Addr} {en_NoClaim eq_NoClaim : Str} {eN_NoClaim : Addr} {eb_NoClaim : List Value} {es_NoClaim : List Str} {eu_NoClaim : List Value} {ea_NoClaim : Bool} {ec_NoClaim : Option Bool} {ed_NoClaim : Option Addr} {k0_NoClaim k1_NoClaim k2_NoClaim k3_NoClaim k5_NoClaim : Option Value}
    {C_NoRow : Addr} {en_NoRow eq_NoRow : Str} {eN_NoRow : Addr} {eb_NoRow : List Value} {es_NoRow : List Str} {eu_NoRow : List Value} {ea_NoRow : Bool} {ec_NoRow : Option Bool} {ed_NoRow : Option Addr} {k0_NoRow k1_NoRow k2_NoRow k3_NoRow k5_NoRow : Option Value}
    {C_NoOrder : Addr} {en_NoOrder eq_NoOrder : Str} {eN_NoOrder : Addr} {eb_NoOrder : List Value} {es_NoOrder : List Str} {eu_NoOrder : List Value} {ea_NoOrder : Bool} {ec_NoOrder : Option Bool} {ed_NoOrder : Option Addr} {k0_NoOrder k1_NoOrder k2_NoOrder k3_NoOrder k5_NoOrder : Option Value}
    {C_NoArrangement : Addr} {en_NoArrangement eq_NoArrangement : Str} {eN_NoArrangement : Addr} {eb_NoArrangement : List Value} {es_NoArrangement : List Str} {eu_NoArrangement : List Value} {ea_NoArrangement : Bool} {ec_NoArrangement : Option Bool} {ed_NoArrangement : Option Addr} {k0_NoArrangement k1_NoArrangement k2_NoArrangement k3_NoArrangement k5_NoArrangement : Option Value}
    {C_Full : Addr} {en_Full eq_Full : Str} {eN_Full : Addr} {eb_Full : List Value} {es_Full : List Str} {eu_Full : List Value} {ea_Full : Bool} {ec_Full : Option Bool} {ed_Full : Option Addr} {k0_Full k1_Full k2_Full k3_Full k5_Full : Option Value}
    {C_Nothing : Addr} {en_Nothing eq_Nothing : Str} {eN_Nothing : Addr} {eb_Nothing : List Value} {es_Nothing : List Str} {eu_Nothing : List Value} {ea_Nothing : Bool} {ec_Nothing : Option Bool} {ed_Nothing : Option Addr} {k0_Nothing k1_Nothing k2_Nothing k3_Nothing k5_Nothing : Option Value}
    {C_Away : Addr} {en_Away eq_Away : Str} {eN_Away : Addr} {eb_Away : List Value} {es_Away : List Str} {eu_Away : List Value} {ea_Away : Bool} {ec_Away : Option Bool} {ed_Away : Option Addr} {k0_Away k1_Away k2_Away k3_Away k5_Away : Option Value}
    {C_There : Addr} {en_There eq_There : Str} {eN_There : Addr} {eb_There : List Value} {es_There : List Str} {eu_There : List Value} {ea_There : Bool} {ec_There : Option Bool} {ed_There : Option Addr} {k0_There k1_There k2_There k3_There k5_There : Option Value}
    {C_NoText : Addr} {en_NoText eq_NoText : Str} {eN_NoText : Addr} {eb_NoText : List Value} {es_NoText : List Str} {eu_NoText : List Value} {ea_NoText : Bool} {ec_NoText : Option Bool} {ed_NoText : Option Addr} {k0_NoText k1_NoText k2_NoText k3_NoText k5_NoText : Option Value}
    {C_NoCommand : Addr} {en_NoCommand eq_NoCommand : Str} {eN_NoCommand : Addr} {eb_NoCommand : List Value} {es_NoCommand : List Str} {eu_NoCommand : List Value} {ea_NoCommand : Bool} {ec_NoCommand : Option Bool} {ed_NoCommand : Option Addr} {k0_NoCommand k1_NoCommand k2_NoCommand k3_NoCommand k5_NoCommand : Option Value}
    {f_Lbag : Addr} {od_Lbag an_Lbag : Option Addr} {sl_Lbag : Array (Option Value)} {oc_Lbag kV_Lbag dc_Lbag pm_Lbag cd_Lbag ct_Lbag : Value}
    {f_Ltake : Addr} {od_Ltake an_Ltake : Option Addr} {sl_Ltake : Array (Option Value)} {oc_Ltake kV_Ltake dc_Ltake pm_Ltake cd_Ltake ct_Ltake : Value}
    {f_Lone : Addr} {od_Lone an_Lone : Option Addr} {sl_Lone : Array (Option Value)} {oc_Lone kV_Lone dc_Lone pm_Lone cd_Lone ct_Lone : Value}
    {f_Lvalue : Addr} {od_Lvalue an_Lvalue : Option Addr} {sl_Lvalue : Array (Option Value)} {oc_Lvalue kV_Lvalue dc_Lvalue pm_Lvalue cd_Lvalue ct_Lvalue : Value}
    {f_Lerrors : Addr} {od_Lerrors an_Lerrors : Option Addr} {sl_Lerrors : Array (Option Value)} {oc_Lerrors kV_Lerrors dc_Lerrors pm_Lerrors cd_Lerrors ct_Lerrors : Value}
    {f_Lflags : Addr} {od_Lflags an_Lflags : Option Addr} {sl_Lflags : Array (Option Value)} {oc_Lflags kV_Lflags dc_Lflags pm_Lflags cd_Lflags ct_Lflags : Value}
    {f_Lfields : Addr} {od_Lfields an_Lfields : Option Addr} {sl_Lfields : Array (Option Value)} {oc_Lfields kV_Lfields dc_Lfields pm_Lfields cd_Lfields ct_Lfields : Value}
    {f_law : Addr} {od_law an_law : Option Addr} {sl_law : Array (Option Value)} {oc_law kV_law dc_law pm_law cd_law ct_law : Value}
    {f_Wrong_init : Addr} {od_Wrong_init an_Wrong_init : Option Addr} {sl_Wrong_init : Array (Option Value)} {oc_Wrong_init kV_Wrong_init dc_Wrong_init pm_Wrong_init cd_Wrong_init ct_Wrong_init : Value}
    {f_NoCall_init : Addr} {od_NoCall_init an_NoCall_init : Option Addr} {sl_NoCall_init : Array (Option Value)} {oc_NoCall_init kV_NoCall_init dc_NoCall_init pm_NoCall_init cd_NoCall_init ct_NoCall_init : Value}
    {f_NoPlace_init : Addr} {od_NoPlace_init an_NoPlace_init : Option Addr} {sl_NoPlace_init : Array (Option Value)} {oc_NoPlace_init kV_NoPlace_init dc_NoPlace_init pm_NoPlace_init cd_NoPlace_init ct_NoPlace_init : Value}
    {f_NoPupil_init : Addr} {od_NoPupil_init an_NoPupil_init : Option Addr} {sl_NoPupil_init : Array (Option Value)} {oc_NoPupil_init kV_NoPupil_init dc_NoPupil_init pm_NoPupil_init cd_NoPupil_init ct_NoPupil_init : Value}
    {f_NoWish_init : Addr} {od_NoWish_init an_NoWish_init : Option Addr} {sl_NoWish_init : Array (Option Value)} {oc_NoWish_init kV_NoWish_init dc_NoWish_init pm_NoWish_init cd_NoWish_init ct_NoWish_init : Value}
    {f_NoStep_init : Addr} {od_NoStep_init an_NoStep_init : Option Addr} {sl_NoStep_init : Array (Option Value)} {oc_NoStep_init kV_NoStep_init dc_NoStep_init pm_NoStep_init cd_NoStep_init ct_NoStep_init : Value}
    {f_NoClaim_init : Addr} {od_NoClaim_init an_NoClaim_init : Option Addr} {sl_NoClaim_init : Array (Option Value)} {oc_NoClaim_init kV_NoClaim_init dc_NoClaim_init pm_NoClaim_init cd_NoClaim_init ct_NoClaim_init : Value}
    {f_NoRow_init : Addr} {od_NoRow_init an_NoRow_init : Option Addr} {sl_NoRow_init : Array (Option Value)} {oc_NoRow_init kV_NoRow_init dc_NoRow_init pm_NoRow_init cd_NoRow_init ct_NoRow_init : Value}
    {f_NoOrder_init : Addr} {od_NoOrder_init an_NoOrder_init : Option Addr} {sl_NoOrder_init : Array (Option Value)} {oc_NoOrder_init kV_NoOrder_init dc_NoOrder_init pm_NoOrder_init cd_NoOrder_init ct_NoOrder_init : Value}
    {f_NoArrangement_init : Addr} {od_NoArrangement_init an_NoArrangement_init : Option Addr} {sl_NoArrangement_init : Array (Option Value)} {oc_NoArrangement_init kV_NoArrangement_init dc_NoArrangement_init pm_NoArrangement_init cd_NoArrangement_init ct_NoArrangement_init : Value}
    {f_Full_init : Addr} {od_Full_init an_Full_init : Option Addr} {sl_Full_init : Array (Option Value)} {oc_Full_init kV_Full_init dc_Full_init pm_Full_init cd_Full_init ct_Full_init : Value}
    {f_Away_init : Addr} {od_Away_init an_Away_init : Option Addr} {sl_Away_init : Array (Option Value)} {oc_Away_init kV_Away_init dc_Away_init pm_Away_init cd_Away_init ct_Away_init : Value}
    {f_There_init : Addr} {od_There_init an_There_init : Option Addr} {sl_There_init : Array (Option Value)} {oc_There_init kV_There_init dc_There_init pm_There_init cd_There_init ct_There_init : Value}
    (g_PupilError : PySem.W.nsIn K mainGlobals "PupilError" = some (some (.ref C_PupilError)))
    (xl_PupilError : K.lookup C_PupilError = some (excClassObj en_PupilError eq_PupilError C_PupilError eN_PupilError eb_PupilError [.type "ValueError", .type "Exception", .type "BaseException", .type "object"] true es_PupilError eu_PupilError ea_PupilError ec_PupilError ed_PupilError k0_PupilError k1_PupilError k2_PupilError k3_PupilError k5_PupilError "ValueError.__new__"))
    (sa_PupilError : PySem.W.findIn K (.ref C_PupilError) "__setattr__" = some (some (.builtin "object.__setattr__")))
    (ex_PupilError : PySem.W.subIn K (.ref C_PupilError) (.type "BaseException") = some true)
    (ty_PupilError : PySem.W.typeIn K (.ref C_PupilError) = some (.type "type"))
    (kc_PupilError : PySem.W.keepIn K (.ref C_PupilError) = true)
    (ga_PupilError : PySem.W.findIn K (.ref C_PupilError) "__getattribute__" = some (some (.builtin "BaseException.__getattribute__")))
    (gg_PupilError : PySem.W.findIn K (.ref C_PupilError) "__getattr__" = some none)
    (hd_PupilError : PySem.W.hasDictIn K C_PupilError = true)
    (ha_PupilError : PySem.W.findIn K (.ref C_PupilError) "__class__" = some (some (.builtin "object.__class__")))
    (hm_PupilError : PySem.W.mroIn K C_PupilError (.type "object") = some true)
    (x0_PupilError : PySem.W.excIn K C_PupilError [.type "ValueError", .type "Exception", .type "BaseException", .type "object"] "ValueError.__new__" = true)
    (g_Wrong : PySem.W.nsIn K mainGlobals "Wrong" = some (some (.ref C_Wrong)))
    (xl_Wrong : K.lookup C_Wrong = some (excClassObj en_Wrong eq_Wrong C_Wrong eN_Wrong eb_Wrong [.ref C_PupilError, .type "ValueError", .type "Exception", .type "BaseException", .type "object"] true es_Wrong eu_Wrong ea_Wrong ec_Wrong ed_Wrong k0_Wrong k1_Wrong k2_Wrong k3_Wrong k5_Wrong "ValueError.__new__"))
    (sa_Wrong : PySem.W.findIn K (.ref C_Wrong) "__setattr__" = some (some (.builtin "object.__setattr__")))
    (ex_Wrong : PySem.W.subIn K (.ref C_Wrong) (.type "BaseException") = some true)
    (ty_Wrong : PySem.W.typeIn K (.ref C_Wrong) = some (.type "type"))
    (kc_Wrong : PySem.W.keepIn K (.ref C_Wrong) = true)
    (ga_Wrong : PySem.W.findIn K (.ref C_Wrong) "__getattribute__" = some (some (.builtin "BaseException.__getattribute__")))
    (gg_Wrong : PySem.W.findIn K (.ref C_Wrong) "__getattr__" = some none)
    (hd_Wrong : PySem.W.hasDictIn K C_Wrong = true)
    (ha_Wrong : PySem.W.findIn K (.ref C_Wrong) "__class__" = some (some (.builtin "object.__class__")))
    (hm_Wrong : PySem.W.mroIn K C_Wrong (.type "object") = some true)
    (N_Wrong_place : PySem.W.findIn K (.ref C_Wrong) "place" = some none)
    (g_NoCall : PySem.W.nsIn K mainGlobals "NoCall" = some (some (.ref C_NoCall)))
    (xl_NoCall : K.lookup C_NoCall = some (excClassObj en_NoCall eq_NoCall C_NoCall eN_NoCall eb_NoCall [.ref C_PupilError, .type "ValueError", .type "Exception", .type "BaseException", .type "object"] true es_NoCall eu_NoCall ea_NoCall ec_NoCall ed_NoCall k0_NoCall k1_NoCall k2_NoCall k3_NoCall k5_NoCall "ValueError.__new__"))
    (sa_NoCall : PySem.W.findIn K (.ref C_NoCall) "__setattr__" = some (some (.builtin "object.__setattr__")))
    (ex_NoCall : PySem.W.subIn K (.ref C_NoCall) (.type "BaseException") = some true)
    (ty_NoCall : PySem.W.typeIn K (.ref C_NoCall) = some (.type "type"))
    (kc_NoCall : PySem.W.keepIn K (.ref C_NoCall) = true)
    (ga_NoCall : PySem.W.findIn K (.ref C_NoCall) "__getattribute__" = some (some (.builtin "BaseException.__getattribute__")))
    (gg_NoCall : PySem.W.findIn K (.ref C_NoCall) "__getattr__" = some none)
    (hd_NoCall : PySem.W.hasDictIn K C_NoCall = true)
    (ha_NoCall : PySem.W.findIn K (.ref C_NoCall) "__class__" = some (some (.builtin "object.__class__")))
    (hm_NoCall : PySem.W.mroIn K C_NoCall (.type "object") = some true)
    (N_NoCall_thing : PySem.W.findIn K (.ref C_NoCall) "thing" = some none)
    (g_Unlike : PySem.W.nsIn K mainGlobals "Unlike" = some (some (.ref C_Unlike)))
    (xl_Unlike : K.lookup C_Unlike = some (excClassObj en_Unlike eq_Unlike C_Unlike eN_Unlike eb_Unlike [.ref C_PupilError, .type "ValueError", .type "Exception", .type "BaseException", .type "object"] true es_Unlike eu_Unlike ea_Unlike ec_Unlike ed_Unlike k0_Unlike k1_Unlike k2_Unlike k3_Unlike k5_Unlike "ValueError.__new__"))
    (sa_Unlike : PySem.W.findIn K (.ref C_Unlike) "__setattr__" = some (some (.builtin "object.__setattr__")))
    (ex_Unlike : PySem.W.subIn K (.ref C_Unlike) (.type "BaseException") = some true)
    (ty_Unlike : PySem.W.typeIn K (.ref C_Unlike) = some (.type "type"))
    (kc_Unlike : PySem.W.keepIn K (.ref C_Unlike) = true)
    (ga_Unlike : PySem.W.findIn K (.ref C_Unlike) "__getattribute__" = some (some (.builtin "BaseException.__getattribute__")))
    (gg_Unlike : PySem.W.findIn K (.ref C_Unlike) "__getattr__" = some none)
    (hd_Unlike : PySem.W.hasDictIn K C_Unlike = true)
    (ha_Unlike : PySem.W.findIn K (.ref C_Unlike) "__class__" = some (some (.builtin "object.__class__")))
    (hm_Unlike : PySem.W.mroIn K C_Unlike (.type "object") = some true)
    (x0_Unlike : PySem.W.excIn K C_Unlike [.type "ValueError", .type "Exception", .type "BaseException", .type "object"] "ValueError.__new__" = true)
    (g_NoPlace : PySem.W.nsIn K mainGlobals "NoPlace" = some (some (.ref C_NoPlace)))
    (xl_NoPlace : K.lookup C_NoPlace = some (excClassObj en_NoPlace eq_NoPlace C_NoPlace eN_NoPlace eb_NoPlace [.ref C_PupilError, .type "ValueError", .type "Exception", .type "BaseException", .type "object"] true es_NoPlace eu_NoPlace ea_NoPlace ec_NoPlace ed_NoPlace k0_NoPlace k1_NoPlace k2_NoPlace k3_NoPlace k5_NoPlace "ValueError.__new__"))
    (sa_NoPlace : PySem.W.findIn K (.ref C_NoPlace) "__setattr__" = some (some (.builtin "object.__setattr__")))
    (ex_NoPlace : PySem.W.subIn K (.ref C_NoPlace) (.type "BaseException") = some true)
    (ty_NoPlace : PySem.W.typeIn K (.ref C_NoPlace) = some (.type "type"))
    (kc_NoPlace : PySem.W.keepIn K (.ref C_NoPlace) = true)
    (ga_NoPlace : PySem.W.findIn K (.ref C_NoPlace) "__getattribute__" = some (some (.builtin "BaseException.__getattribute__")))
    (gg_NoPlace : PySem.W.findIn K (.ref C_NoPlace) "__getattr__" = some none)
    (hd_NoPlace : PySem.W.hasDictIn K C_NoPlace = true)
    (ha_NoPlace : PySem.W.findIn K (.ref C_NoPlace) "__class__" = some (some (.builtin "object.__class__")))
    (hm_NoPlace : PySem.W.mroIn K C_NoPlace (.type "object") = some true)
    (N_NoPlace_place : PySem.W.findIn K (.ref C_NoPlace) "place" = some none)
    (g_NoPupil : PySem.W.nsIn K mainGlobals "NoPupil" = some (some (.ref C_NoPupil)))
    (xl_NoPupil : K.lookup C_NoPupil = some (excClassObj en_NoPupil eq_NoPupil C_NoPupil eN_NoPupil eb_NoPupil [.ref C_PupilError, .type "ValueError", .type "Exception", .type "BaseException", .type "object"] true es_NoPupil eu_NoPupil ea_NoPupil ec_NoPupil ed_NoPupil k0_NoPupil k1_NoPupil k2_NoPupil k3_NoPupil k5_NoPupil "ValueError.__new__"))
    (sa_NoPupil : PySem.W.findIn K (.ref C_NoPupil) "__setattr__" = some (some (.builtin "object.__setattr__")))
    (ex_NoPupil : PySem.W.subIn K (.ref C_NoPupil) (.type "BaseException") = some true)
    (ty_NoPupil : PySem.W.typeIn K (.ref C_NoPupil) = some (.type "type"))
    (kc_NoPupil : PySem.W.keepIn K (.ref C_NoPupil) = true)
    (ga_NoPupil : PySem.W.findIn K (.ref C_NoPupil) "__getattribute__" = some (some (.builtin "BaseException.__getattribute__")))
    (gg_NoPupil : PySem.W.findIn K (.ref C_NoPupil) "__getattr__" = some none)
    (hd_NoPupil : PySem.W.hasDictIn K C_NoPupil = true)
    (ha_NoPupil : PySem.W.findIn K (.ref C_NoPupil) "__class__" = some (some (.builtin "object.__class__")))
    (hm_NoPupil : PySem.W.mroIn K C_NoPupil (.type "object") = some true)
    (N_NoPupil_pupil : PySem.W.findIn K (.ref C_NoPupil) "pupil" = some none)
    (g_Open : PySem.W.nsIn K mainGlobals "Open" = some (some (.ref C_Open)))
    (xl_Open : K.lookup C_Open = some (excClassObj en_Open eq_Open C_Open eN_Open eb_Open [.ref C_PupilError, .type "ValueError", .type "Exception", .type "BaseException", .type "object"] true es_Open eu_Open ea_Open ec_Open ed_Open k0_Open k1_Open k2_Open k3_Open k5_Open "ValueError.__new__"))
    (sa_Open : PySem.W.findIn K (.ref C_Open) "__setattr__" = some (some (.builtin "object.__setattr__")))
    (ex_Open : PySem.W.subIn K (.ref C_Open) (.type "BaseException") = some true)
    (ty_Open : PySem.W.typeIn K (.ref C_Open) = some (.type "type"))
    (kc_Open : PySem.W.keepIn K (.ref C_Open) = true)
    (ga_Open : PySem.W.findIn K (.ref C_Open) "__getattribute__" = some (some (.builtin "BaseException.__getattribute__")))
    (gg_Open : PySem.W.findIn K (.ref C_Open) "__getattr__" = some none)
    (hd_Open : PySem.W.hasDictIn K C_Open = true)
    (ha_Open : PySem.W.findIn K (.ref C_Open) "__class__" = some (some (.builtin "object.__class__")))
    (hm_Open : PySem.W.mroIn K C_Open (.type "object") = some true)
    (x0_Open : PySem.W.excIn K C_Open [.type "ValueError", .type "Exception", .type "BaseException", .type "object"] "ValueError.__new__" = true)
    (g_NoWish : PySem.W.nsIn K mainGlobals "NoWish" = some (some (.ref C_NoWish)))
    (xl_NoWish : K.lookup C_NoWish = some (excClassObj en_NoWish eq_NoWish C_NoWish eN_NoWish eb_NoWish [.ref C_PupilError, .type "ValueError", .type "Exception", .type "BaseException", .type "object"] true es_NoWish eu_NoWish ea_NoWish ec_NoWish ed_NoWish k0_NoWish k1_NoWish k2_NoWish k3_NoWish k5_NoWish "ValueError.__new__"))
    (sa_NoWish : PySem.W.findIn K (.ref C_NoWish) "__setattr__" = some (some (.builtin "object.__setattr__")))
    (ex_NoWish : PySem.W.subIn K (.ref C_NoWish) (.type "BaseException") = some true)
    (ty_NoWish : PySem.W.typeIn K (.ref C_NoWish) = some (.type "type"))
    (kc_NoWish : PySem.W.keepIn K (.ref C_NoWish) = true)
    (ga_NoWish : PySem.W.findIn K (.ref C_NoWish) "__getattribute__" = some (some (.builtin "BaseException.__getattribute__")))
    (gg_NoWish : PySem.W.findIn K (.ref C_NoWish) "__getattr__" = some none)
    (hd_NoWish : PySem.W.hasDictIn K C_NoWish = true)
    (ha_NoWish : PySem.W.findIn K (.ref C_NoWish) "__class__" = some (some (.builtin "object.__class__")))
    (hm_NoWish : PySem.W.mroIn K C_NoWish (.type "object") = some true)
    (N_NoWish_wish : PySem.W.findIn K (.ref C_NoWish) "wish" = some none)
    (g_NoStep : PySem.W.nsIn K mainGlobals "NoStep" = some (some (.ref C_NoStep)))
    (xl_NoStep : K.lookup C_NoStep = some (excClassObj en_NoStep eq_NoStep C_NoStep eN_NoStep eb_NoStep [.ref C_PupilError, .type "ValueError", .type "Exception", .type "BaseException", .type "object"] true es_NoStep eu_NoStep ea_NoStep ec_NoStep ed_NoStep k0_NoStep k1_NoStep k2_NoStep k3_NoStep k5_NoStep "ValueError.__new__"))
    (sa_NoStep : PySem.W.findIn K (.ref C_NoStep) "__setattr__" = some (some (.builtin "object.__setattr__")))
    (ex_NoStep : PySem.W.subIn K (.ref C_NoStep) (.type "BaseException") = some true)
    (ty_NoStep : PySem.W.typeIn K (.ref C_NoStep) = some (.type "type"))
    (kc_NoStep : PySem.W.keepIn K (.ref C_NoStep) = true)
    (ga_NoStep : PySem.W.findIn K (.ref C_NoStep) "__getattribute__" = some (some (.builtin "BaseException.__getattribute__")))
    (gg_NoStep : PySem.W.findIn K (.ref C_NoStep) "__getattr__" = some none)
    (hd_NoStep : PySem.W.hasDictIn K C_NoStep = true)
    (ha_NoStep : PySem.W.findIn K (.ref C_NoStep) "__class__" = some (some (.builtin "object.__class__")))
    (hm_NoStep : PySem.W.mroIn K C_NoStep (.type "object") = some true)
    (N_NoStep_step : PySem.W.findIn K (.ref C_NoStep) "step" = some none)
    (g_NoClaim : PySem.W.nsIn K mainGlobals "NoClaim" = some (some (.ref C_NoClaim)))
    (xl_NoClaim : K.lookup C_NoClaim = some (excClassObj en_NoClaim eq_NoClaim C_NoClaim eN_NoClaim eb_NoClaim [.ref C_PupilError, .type "ValueError", .type "Exception", .type "BaseException", .type "object"] true es_NoClaim eu_NoClaim ea_NoClaim ec_NoClaim ed_NoClaim k0_NoClaim k1_NoClaim k2_NoClaim k3_NoClaim k5_NoClaim "ValueError.__new__"))
    (sa_NoClaim : PySem.W.findIn K (.ref C_NoClaim) "__setattr__" = some (some (.builtin "object.__setattr__")))
    (ex_NoClaim : PySem.W.subIn K (.ref C_NoClaim) (.type "BaseException") = some true)
    (ty_NoClaim : PySem.W.typeIn K (.ref C_NoClaim) = some (.type "type"))
    (kc_NoClaim : PySem.W.keepIn K (.ref C_NoClaim) = true)
    (ga_NoClaim : PySem.W.findIn K (.ref C_NoClaim) "__getattribute__" = some (some (.builtin "BaseException.__getattribute__")))
    (gg_NoClaim : PySem.W.findIn K (.ref C_NoClaim) "__getattr__" = some none)
    (hd_NoClaim : PySem.W.hasDictIn K C_NoClaim = true)
    (ha_NoClaim : PySem.W.findIn K (.ref C_NoClaim) "__class__" = some (some (.builtin "object.__class__")))
    (hm_NoClaim : PySem.W.mroIn K C_NoClaim (.type "object") = some true)
    (N_NoClaim_claim : PySem.W.findIn K (.ref C_NoClaim) "claim" = some none)
    (g_NoRow : PySem.W.nsIn K mainGlobals "NoRow" = some (some (.ref C_NoRow)))
    (xl_NoRow : K.lookup C_NoRow = some (excClassObj en_NoRow eq_NoRow C_NoRow eN_NoRow eb_NoRow [.ref C_PupilError, .type "ValueError", .type "Exception", .type "BaseException", .type "object"] true es_NoRow eu_NoRow ea_NoRow ec_NoRow ed_NoRow k0_NoRow k1_NoRow k2_NoRow k3_NoRow k5_NoRow "ValueError.__new__"))
    (sa_NoRow : PySem.W.findIn K (.ref C_NoRow) "__setattr__" = some (some (.builtin "object.__setattr__")))
    (ex_NoRow : PySem.W.subIn K (.ref C_NoRow) (.type "BaseException") = some true)
    (ty_NoRow : PySem.W.typeIn K (.ref C_NoRow) = some (.type "type"))
    (kc_NoRow : PySem.W.keepIn K (.ref C_NoRow) = true)
    (ga_NoRow : PySem.W.findIn K (.ref C_NoRow) "__getattribute__" = some (some (.builtin "BaseException.__getattribute__")))
    (gg_NoRow : PySem.W.findIn K (.ref C_NoRow) "__getattr__" = some none)
    (hd_NoRow : PySem.W.hasDictIn K C_NoRow = true)
    (ha_NoRow : PySem.W.findIn K (.ref C_NoRow) "__class__" = some (some (.builtin "object.__class__")))
    (hm_NoRow : PySem.W.mroIn K C_NoRow (.type "object") = some true)
    (N_NoRow_row : PySem.W.findIn K (.ref C_NoRow) "row" = some none)
    (g_NoOrder : PySem.W.nsIn K mainGlobals "NoOrder" = some (some (.ref C_NoOrder)))
    (xl_NoOrder : K.lookup C_NoOrder = some (excClassObj en_NoOrder eq_NoOrder C_NoOrder eN_NoOrder eb_NoOrder [.ref C_PupilError, .type "ValueError", .type "Exception", .type "BaseException", .type "object"] true es_NoOrder eu_NoOrder ea_NoOrder ec_NoOrder ed_NoOrder k0_NoOrder k1_NoOrder k2_NoOrder k3_NoOrder k5_NoOrder "ValueError.__new__"))
    (sa_NoOrder : PySem.W.findIn K (.ref C_NoOrder) "__setattr__" = some (some (.builtin "object.__setattr__")))
    (ex_NoOrder : PySem.W.subIn K (.ref C_NoOrder) (.type "BaseException") = some true)
    (ty_NoOrder : PySem.W.typeIn K (.ref C_NoOrder) = some (.type "type"))
    (kc_NoOrder : PySem.W.keepIn K (.ref C_NoOrder) = true)
    (ga_NoOrder : PySem.W.findIn K (.ref C_NoOrder) "__getattribute__" = some (some (.builtin "BaseException.__getattribute__")))
    (gg_NoOrder : PySem.W.findIn K (.ref C_NoOrder) "__getattr__" = some none)
    (hd_NoOrder : PySem.W.hasDictIn K C_NoOrder = true)
    (ha_NoOrder : PySem.W.findIn K (.ref C_NoOrder) "__class__" = some (some (.builtin "object.__class__")))
    (hm_NoOrder : PySem.W.mroIn K C_NoOrder (.type "object") = some true)
    (N_NoOrder_base : PySem.W.findIn K (.ref C_NoOrder) "base" = some none)
    (N_NoOrder_modulus : PySem.W.findIn K (.ref C_NoOrder) "modulus" = some none)
    (g_NoArrangement : PySem.W.nsIn K mainGlobals "NoArrangement" = some (some (.ref C_NoArrangement)))
    (xl_NoArrangement : K.lookup C_NoArrangement = some (excClassObj en_NoArrangement eq_NoArrangement C_NoArrangement eN_NoArrangement eb_NoArrangement [.ref C_PupilError, .type "ValueError", .type "Exception", .type "BaseException", .type "object"] true es_NoArrangement eu_NoArrangement ea_NoArrangement ec_NoArrangement ed_NoArrangement k0_NoArrangement k1_NoArrangement k2_NoArrangement k3_NoArrangement k5_NoArrangement "ValueError.__new__"))
    (sa_NoArrangement : PySem.W.findIn K (.ref C_NoArrangement) "__setattr__" = some (some (.builtin "object.__setattr__")))
    (ex_NoArrangement : PySem.W.subIn K (.ref C_NoArrangement) (.type "BaseException") = some true)
    (ty_NoArrangement : PySem.W.typeIn K (.ref C_NoArrangement) = some (.type "type"))
    (kc_NoArrangement : PySem.W.keepIn K (.ref C_NoArrangement) = true)
    (ga_NoArrangement : PySem.W.findIn K (.ref C_NoArrangement) "__getattribute__" = some (some (.builtin "BaseException.__getattribute__")))
    (gg_NoArrangement : PySem.W.findIn K (.ref C_NoArrangement) "__getattr__" = some none)
    (hd_NoArrangement : PySem.W.hasDictIn K C_NoArrangement = true)
    (ha_NoArrangement : PySem.W.findIn K (.ref C_NoArrangement) "__class__" = some (some (.builtin "object.__class__")))
    (hm_NoArrangement : PySem.W.mroIn K C_NoArrangement (.type "object") = some true)
    (N_NoArrangement_thing : PySem.W.findIn K (.ref C_NoArrangement) "thing" = some none)
    (g_Full : PySem.W.nsIn K mainGlobals "Full" = some (some (.ref C_Full)))
    (xl_Full : K.lookup C_Full = some (excClassObj en_Full eq_Full C_Full eN_Full eb_Full [.ref C_PupilError, .type "ValueError", .type "Exception", .type "BaseException", .type "object"] true es_Full eu_Full ea_Full ec_Full ed_Full k0_Full k1_Full k2_Full k3_Full k5_Full "ValueError.__new__"))
    (sa_Full : PySem.W.findIn K (.ref C_Full) "__setattr__" = some (some (.builtin "object.__setattr__")))
    (ex_Full : PySem.W.subIn K (.ref C_Full) (.type "BaseException") = some true)
    (ty_Full : PySem.W.typeIn K (.ref C_Full) = some (.type "type"))
    (kc_Full : PySem.W.keepIn K (.ref C_Full) = true)
    (ga_Full : PySem.W.findIn K (.ref C_Full) "__getattribute__" = some (some (.builtin "BaseException.__getattribute__")))
    (gg_Full : PySem.W.findIn K (.ref C_Full) "__getattr__" = some none)
    (hd_Full : PySem.W.hasDictIn K C_Full = true)
    (ha_Full : PySem.W.findIn K (.ref C_Full) "__class__" = some (some (.builtin "object.__class__")))
    (hm_Full : PySem.W.mroIn K C_Full (.type "object") = some true)
    (N_Full_limit : PySem.W.findIn K (.ref C_Full) "limit" = some none)
    (g_Nothing : PySem.W.nsIn K mainGlobals "Nothing" = some (some (.ref C_Nothing)))
    (xl_Nothing : K.lookup C_Nothing = some (excClassObj en_Nothing eq_Nothing C_Nothing eN_Nothing eb_Nothing [.ref C_PupilError, .type "ValueError", .type "Exception", .type "BaseException", .type "object"] true es_Nothing eu_Nothing ea_Nothing ec_Nothing ed_Nothing k0_Nothing k1_Nothing k2_Nothing k3_Nothing k5_Nothing "ValueError.__new__"))
    (sa_Nothing : PySem.W.findIn K (.ref C_Nothing) "__setattr__" = some (some (.builtin "object.__setattr__")))
    (ex_Nothing : PySem.W.subIn K (.ref C_Nothing) (.type "BaseException") = some true)
    (ty_Nothing : PySem.W.typeIn K (.ref C_Nothing) = some (.type "type"))
    (kc_Nothing : PySem.W.keepIn K (.ref C_Nothing) = true)
    (ga_Nothing : PySem.W.findIn K (.ref C_Nothing) "__getattribute__" = some (some (.builtin "BaseException.__getattribute__")))
    (gg_Nothing : PySem.W.findIn K (.ref C_Nothing) "__getattr__" = some none)
    (hd_Nothing : PySem.W.hasDictIn K C_Nothing = true)
    (ha_Nothing : PySem.W.findIn K (.ref C_Nothing) "__class__" = some (some (.builtin "object.__class__")))
    (hm_Nothing : PySem.W.mroIn K C_Nothing (.type "object") = some true)
    (x0_Nothing : PySem.W.excIn K C_Nothing [.type "ValueError", .type "Exception", .type "BaseException", .type "object"] "ValueError.__new__" = true)
    (g_Away : PySem.W.nsIn K mainGlobals "Away" = some (some (.ref C_Away)))
    (xl_Away : K.lookup C_Away = some (excClassObj en_Away eq_Away C_Away eN_Away eb_Away [.ref C_PupilError, .type "ValueError", .type "Exception", .type "BaseException", .type "object"] true es_Away eu_Away ea_Away ec_Away ed_Away k0_Away k1_Away k2_Away k3_Away k5_Away "ValueError.__new__"))
    (sa_Away : PySem.W.findIn K (.ref C_Away) "__setattr__" = some (some (.builtin "object.__setattr__")))
    (ex_Away : PySem.W.subIn K (.ref C_Away) (.type "BaseException") = some true)
    (ty_Away : PySem.W.typeIn K (.ref C_Away) = some (.type "type"))
    (kc_Away : PySem.W.keepIn K (.ref C_Away) = true)
    (ga_Away : PySem.W.findIn K (.ref C_Away) "__getattribute__" = some (some (.builtin "BaseException.__getattribute__")))
    (gg_Away : PySem.W.findIn K (.ref C_Away) "__getattr__" = some none)
    (hd_Away : PySem.W.hasDictIn K C_Away = true)
    (ha_Away : PySem.W.findIn K (.ref C_Away) "__class__" = some (some (.builtin "object.__class__")))
    (hm_Away : PySem.W.mroIn K C_Away (.type "object") = some true)
    (N_Away_pupil : PySem.W.findIn K (.ref C_Away) "pupil" = some none)
    (g_There : PySem.W.nsIn K mainGlobals "There" = some (some (.ref C_There)))
    (xl_There : K.lookup C_There = some (excClassObj en_There eq_There C_There eN_There eb_There [.ref C_PupilError, .type "ValueError", .type "Exception", .type "BaseException", .type "object"] true es_There eu_There ea_There ec_There ed_There k0_There k1_There k2_There k3_There k5_There "ValueError.__new__"))
    (sa_There : PySem.W.findIn K (.ref C_There) "__setattr__" = some (some (.builtin "object.__setattr__")))
    (ex_There : PySem.W.subIn K (.ref C_There) (.type "BaseException") = some true)
    (ty_There : PySem.W.typeIn K (.ref C_There) = some (.type "type"))
    (kc_There : PySem.W.keepIn K (.ref C_There) = true)
    (ga_There : PySem.W.findIn K (.ref C_There) "__getattribute__" = some (some (.builtin "BaseException.__getattribute__")))
    (gg_There : PySem.W.findIn K (.ref C_There) "__getattr__" = some none)
    (hd_There : PySem.W.hasDictIn K C_There = true)
    (ha_There : PySem.W.findIn K (.ref C_There) "__class__" = some (some (.builtin "object.__class__")))
    (hm_There : PySem.W.mroIn K C_There (.type "object") = some true)
    (N_There_pupil : PySem.W.findIn K (.ref C_There) "pupil" = some none)
    (g_NoText : PySem.W.nsIn K mainGlobals "NoText" = some (some (.ref C_NoText)))
    (xl_NoText : K.lookup C_NoText = some (excClassObj en_NoText eq_NoText C_NoText eN_NoText eb_NoText [.ref C_PupilError, .type "ValueError", .type "Exception", .type "BaseException", .type "object"] true es_NoText eu_NoText ea_NoText ec_NoText ed_NoText k0_NoText k1_NoText k2_NoText k3_NoText k5_NoText "ValueError.__new__"))
    (sa_NoText : PySem.W.findIn K (.ref C_NoText) "__setattr__" = some (some (.builtin "object.__setattr__")))
    (ex_NoText : PySem.W.subIn K (.ref C_NoText) (.type "BaseException") = some true)
    (ty_NoText : PySem.W.typeIn K (.ref C_NoText) = some (.type "type"))
    (kc_NoText : PySem.W.keepIn K (.ref C_NoText) = true)
    (ga_NoText : PySem.W.findIn K (.ref C_NoText) "__getattribute__" = some (some (.builtin "BaseException.__getattribute__")))
    (gg_NoText : PySem.W.findIn K (.ref C_NoText) "__getattr__" = some none)
    (hd_NoText : PySem.W.hasDictIn K C_NoText = true)
    (ha_NoText : PySem.W.findIn K (.ref C_NoText) "__class__" = some (some (.builtin "object.__class__")))
    (hm_NoText : PySem.W.mroIn K C_NoText (.type "object") = some true)
    (x0_NoText : PySem.W.excIn K C_NoText [.type "ValueError", .type "Exception", .type "BaseException", .type "object"] "ValueError.__new__" = true)
    (g_NoCommand : PySem.W.nsIn K mainGlobals "NoCommand" = some (some (.ref C_NoCommand)))
    (xl_NoCommand : K.lookup C_NoCommand = some (excClassObj en_NoCommand eq_NoCommand C_NoCommand eN_NoCommand eb_NoCommand [.ref C_PupilError, .type "ValueError", .type "Exception", .type "BaseException", .type "object"] true es_NoCommand eu_NoCommand ea_NoCommand ec_NoCommand ed_NoCommand k0_NoCommand k1_NoCommand k2_NoCommand k3_NoCommand k5_NoCommand "ValueError.__new__"))
    (sa_NoCommand : PySem.W.findIn K (.ref C_NoCommand) "__setattr__" = some (some (.builtin "object.__setattr__")))
    (ex_NoCommand : PySem.W.subIn K (.ref C_NoCommand) (.type "BaseException") = some true)
    (ty_NoCommand : PySem.W.typeIn K (.ref C_NoCommand) = some (.type "type"))
    (kc_NoCommand : PySem.W.keepIn K (.ref C_NoCommand) = true)
    (ga_NoCommand : PySem.W.findIn K (.ref C_NoCommand) "__getattribute__" = some (some (.builtin "BaseException.__getattribute__")))
    (gg_NoCommand : PySem.W.findIn K (.ref C_NoCommand) "__getattr__" = some none)
    (hd_NoCommand : PySem.W.hasDictIn K C_NoCommand = true)
    (ha_NoCommand : PySem.W.findIn K (.ref C_NoCommand) "__class__" = some (some (.builtin "object.__class__")))
    (hm_NoCommand : PySem.W.mroIn K C_NoCommand (.type "object") = some true)
    (x0_NoCommand : PySem.W.excIn K C_NoCommand [.type "ValueError", .type "Exception", .type "BaseException", .type "object"] "ValueError.__new__" = true)
    (kt : Er.ktab K [C_Wrong, C_NoCall, C_NoPlace, C_NoPupil, C_NoStep, C_NoClaim, C_NoRow, C_NoArrangement, C_Full, C_Away, C_There, C_NoOrder, C_Unlike, C_Open, C_Nothing, C_NoText, C_NoCommand, C_NoWish] = true)
    (ka_PupilError : Er.kall K [C_Wrong, C_NoCall, C_NoPlace, C_NoPupil, C_NoStep, C_NoClaim, C_NoRow, C_NoArrangement, C_Full, C_Away, C_There, C_NoOrder, C_Unlike, C_Open, C_Nothing, C_NoText, C_NoCommand, C_NoWish] (.ref C_PupilError) = true)
    (ka_VE : Er.kall K [C_Wrong, C_NoCall, C_NoPlace, C_NoPupil, C_NoStep, C_NoClaim, C_NoRow, C_NoArrangement, C_Full, C_Away, C_There, C_NoOrder, C_Unlike, C_Open, C_Nothing, C_NoText, C_NoCommand, C_NoWish] (.type "ValueError") = true)
    (hgt : PySem.W.specialIn K (.builtin "object.__class__") "__get__" = some (some (.builtin "getset_descriptor.__get__")))
    (htk : PySem.W.takesIn K (.builtin "object.__class__") = some true)
    (a_Lbag : PySem.W.nsIn K mainGlobals "_law_bag" = some (some (.ref f_Lbag)))
    (l_Lbag : K.lookup f_Lbag = some ⟨oc_Lbag, od_Lbag, .func (PySem.W.fnOf "_law_bag" "_law_bag" (defArgs s_Lbag) (defBody s_Lbag) (defScope s_Lbag) .none kV_Lbag dc_Lbag pm_Lbag an_Lbag cd_Lbag ct_Lbag), sl_Lbag⟩)
    (c_Lbag : PySem.W.codeIn K cd_Lbag "_law_bag" = true)
    (k_Lbag : PySem.W.keepIn K (.ref f_Lbag) = true)
    (a_Ltake : PySem.W.nsIn K mainGlobals "_law_take" = some (some (.ref f_Ltake)))
    (l_Ltake : K.lookup f_Ltake = some ⟨oc_Ltake, od_Ltake, .func (PySem.W.fnOf "_law_take" "_law_take" (defArgs s_Ltake) (defBody s_Ltake) (defScope s_Ltake) .none kV_Ltake dc_Ltake pm_Ltake an_Ltake cd_Ltake ct_Ltake), sl_Ltake⟩)
    (c_Ltake : PySem.W.codeIn K cd_Ltake "_law_take" = true)
    (k_Ltake : PySem.W.keepIn K (.ref f_Ltake) = true)
    (a_Lone : PySem.W.nsIn K mainGlobals "_law_one" = some (some (.ref f_Lone)))
    (l_Lone : K.lookup f_Lone = some ⟨oc_Lone, od_Lone, .func (PySem.W.fnOf "_law_one" "_law_one" (defArgs s_Lone) (defBody s_Lone) (defScope s_Lone) .none kV_Lone dc_Lone pm_Lone an_Lone cd_Lone ct_Lone), sl_Lone⟩)
    (c_Lone : PySem.W.codeIn K cd_Lone "_law_one" = true)
    (k_Lone : PySem.W.keepIn K (.ref f_Lone) = true)
    (a_Lvalue : PySem.W.nsIn K mainGlobals "_law_value" = some (some (.ref f_Lvalue)))
    (l_Lvalue : K.lookup f_Lvalue = some ⟨oc_Lvalue, od_Lvalue, .func (PySem.W.fnOf "_law_value" "_law_value" (defArgs s_Lvalue) (defBody s_Lvalue) (defScope s_Lvalue) .none kV_Lvalue dc_Lvalue pm_Lvalue an_Lvalue cd_Lvalue ct_Lvalue), sl_Lvalue⟩)
    (c_Lvalue : PySem.W.codeIn K cd_Lvalue "_law_value" = true)
    (k_Lvalue : PySem.W.keepIn K (.ref f_Lvalue) = true)
    (a_Lerrors : PySem.W.nsIn K mainGlobals "_law_errors" = some (some (.ref f_Lerrors)))
    (l_Lerrors : K.lookup f_Lerrors = some ⟨oc_Lerrors, od_Lerrors, .func (PySem.W.fnOf "_law_errors" "_law_errors" (defArgs s_Lerrors) (defBody s_Lerrors) (defScope s_Lerrors) .none kV_Lerrors dc_Lerrors pm_Lerrors an_Lerrors cd_Lerrors ct_Lerrors), sl_Lerrors⟩)
    (c_Lerrors : PySem.W.codeIn K cd_Lerrors "_law_errors" = true)
    (k_Lerrors : PySem.W.keepIn K (.ref f_Lerrors) = true)
    (a_Lflags : PySem.W.nsIn K mainGlobals "_law_flags" = some (some (.ref f_Lflags)))
    (l_Lflags : K.lookup f_Lflags = some ⟨oc_Lflags, od_Lflags, .func (PySem.W.fnOf "_law_flags" "_law_flags" (defArgs s_Lflags) (defBody s_Lflags) (defScope s_Lflags) .none kV_Lflags dc_Lflags pm_Lflags an_Lflags cd_Lflags ct_Lflags), sl_Lflags⟩)
    (c_Lflags : PySem.W.codeIn K cd_Lflags "_law_flags" = true)
    (k_Lflags : PySem.W.keepIn K (.ref f_Lflags) = true)
    (a_Lfields : PySem.W.nsIn K mainGlobals "_law_fields" = some (some (.ref f_Lfields)))
    (l_Lfields : K.lookup f_Lfields = some ⟨oc_Lfields, od_Lfields, .func (PySem.W.fnOf "_law_fields" "_law_fields" (defArgs s_Lfields) (defBody s_Lfields) (defScope s_Lfields) .none kV_Lfields dc_Lfields pm_Lfields an_Lfields cd_Lfields ct_Lfields), sl_Lfields⟩)
    (c_Lfields : PySem.W.codeIn K cd_Lfields "_law_fields" = true)
    (k_Lfields : PySem.W.keepIn K (.ref f_Lfields) = true)
    (a_law : PySem.W.nsIn K mainGlobals "law" = some (some (.ref f_law)))
    (l_law : K.lookup f_law = some ⟨oc_law, od_law, .func (PySem.W.fnOf "law" "law" (defArgs s_law) (defBody s_law) (defScope s_law) .none kV_law dc_law pm_law an_law cd_law ct_law), sl_law⟩)
    (c_law : PySem.W.codeIn K cd_law "law" = true)
    (k_law : PySem.W.keepIn K (.ref f_law) = true)
    (e_Wrong_init : PySem.W.findIn K (.ref C_Wrong) "__init__" = some (some (.ref f_Wrong_init)))
    (i_Wrong_init : PySem.W.isFn K (.ref f_Wrong_init) = true)
    (l_Wrong_init : K.lookup f_Wrong_init = some ⟨oc_Wrong_init, od_Wrong_init, .func (PySem.W.fnOf "__init__" "Wrong.__init__" (defArgs s_Wrong_init) (defBody s_Wrong_init) (defScope s_Wrong_init) .none kV_Wrong_init dc_Wrong_init pm_Wrong_init an_Wrong_init cd_Wrong_init ct_Wrong_init), sl_Wrong_init⟩)
    (c_Wrong_init : PySem.W.codeIn K cd_Wrong_init "Wrong.__init__" = true)
    (k_Wrong_init : PySem.W.keepIn K (.ref f_Wrong_init) = true)
    (e_NoCall_init : PySem.W.findIn K (.ref C_NoCall) "__init__" = some (some (.ref f_NoCall_init)))
    (i_NoCall_init : PySem.W.isFn K (.ref f_NoCall_init) = true)
    (l_NoCall_init : K.lookup f_NoCall_init = some ⟨oc_NoCall_init, od_NoCall_init, .func (PySem.W.fnOf "__init__" "NoCall.__init__" (defArgs s_NoCall_init) (defBody s_NoCall_init) (defScope s_NoCall_init) .none kV_NoCall_init dc_NoCall_init pm_NoCall_init an_NoCall_init cd_NoCall_init ct_NoCall_init), sl_NoCall_init⟩)
    (c_NoCall_init : PySem.W.codeIn K cd_NoCall_init "NoCall.__init__" = true)
    (k_NoCall_init : PySem.W.keepIn K (.ref f_NoCall_init) = true)
    (e_NoPlace_init : PySem.W.findIn K (.ref C_NoPlace) "__init__" = some (some (.ref f_NoPlace_init)))
    (i_NoPlace_init : PySem.W.isFn K (.ref f_NoPlace_init) = true)
    (l_NoPlace_init : K.lookup f_NoPlace_init = some ⟨oc_NoPlace_init, od_NoPlace_init, .func (PySem.W.fnOf "__init__" "NoPlace.__init__" (defArgs s_NoPlace_init) (defBody s_NoPlace_init) (defScope s_NoPlace_init) .none kV_NoPlace_init dc_NoPlace_init pm_NoPlace_init an_NoPlace_init cd_NoPlace_init ct_NoPlace_init), sl_NoPlace_init⟩)
    (c_NoPlace_init : PySem.W.codeIn K cd_NoPlace_init "NoPlace.__init__" = true)
    (k_NoPlace_init : PySem.W.keepIn K (.ref f_NoPlace_init) = true)
    (e_NoPupil_init : PySem.W.findIn K (.ref C_NoPupil) "__init__" = some (some (.ref f_NoPupil_init)))
    (i_NoPupil_init : PySem.W.isFn K (.ref f_NoPupil_init) = true)
    (l_NoPupil_init : K.lookup f_NoPupil_init = some ⟨oc_NoPupil_init, od_NoPupil_init, .func (PySem.W.fnOf "__init__" "NoPupil.__init__" (defArgs s_NoPupil_init) (defBody s_NoPupil_init) (defScope s_NoPupil_init) .none kV_NoPupil_init dc_NoPupil_init pm_NoPupil_init an_NoPupil_init cd_NoPupil_init ct_NoPupil_init), sl_NoPupil_init⟩)
    (c_NoPupil_init : PySem.W.codeIn K cd_NoPupil_init "NoPupil.__init__" = true)
    (k_NoPupil_init : PySem.W.keepIn K (.ref f_NoPupil_init) = true)
    (e_NoWish_init : PySem.W.findIn K (.ref C_NoWish) "__init__" = some (some (.ref f_NoWish_init)))
    (i_NoWish_init : PySem.W.isFn K (.ref f_NoWish_init) = true)
    (l_NoWish_init : K.lookup f_NoWish_init = some ⟨oc_NoWish_init, od_NoWish_init, .func (PySem.W.fnOf "__init__" "NoWish.__init__" (defArgs s_NoWish_init) (defBody s_NoWish_init) (defScope s_NoWish_init) .none kV_NoWish_init dc_NoWish_init pm_NoWish_init an_NoWish_init cd_NoWish_init ct_NoWish_init), sl_NoWish_init⟩)
    (c_NoWish_init : PySem.W.codeIn K cd_NoWish_init "NoWish.__init__" = true)
    (k_NoWish_init : PySem.W.keepIn K (.ref f_NoWish_init) = true)
    (e_NoStep_init : PySem.W.findIn K (.ref C_NoStep) "__init__" = some (some (.ref f_NoStep_init)))
    (i_NoStep_init : PySem.W.isFn K (.ref f_NoStep_init) = true)
    (l_NoStep_init : K.lookup f_NoStep_init = some ⟨oc_NoStep_init, od_NoStep_init, .func (PySem.W.fnOf "__init__" "NoStep.__init__" (defArgs s_NoStep_init) (defBody s_NoStep_init) (defScope s_NoStep_init) .none kV_NoStep_init dc_NoStep_init pm_NoStep_init an_NoStep_init cd_NoStep_init ct_NoStep_init), sl_NoStep_init⟩)
    (c_NoStep_init : PySem.W.codeIn K cd_NoStep_init "NoStep.__init__" = true)
    (k_NoStep_init : PySem.W.keepIn K (.ref f_NoStep_init) = true)
    (e_NoClaim_init : PySem.W.findIn K (.ref C_NoClaim) "__init__" = some (some (.ref f_NoClaim_init)))
    (i_NoClaim_init : PySem.W.isFn K (.ref f_NoClaim_init) = true)
    (l_NoClaim_init : K.lookup f_NoClaim_init = some ⟨oc_NoClaim_init, od_NoClaim_init, .func (PySem.W.fnOf "__init__" "NoClaim.__init__" (defArgs s_NoClaim_init) (defBody s_NoClaim_init) (defScope s_NoClaim_init) .none kV_NoClaim_init dc_NoClaim_init pm_NoClaim_init an_NoClaim_init cd_NoClaim_init ct_NoClaim_init), sl_NoClaim_init⟩)
    (c_NoClaim_init : PySem.W.codeIn K cd_NoClaim_init "NoClaim.__init__" = true)
    (k_NoClaim_init : PySem.W.keepIn K (.ref f_NoClaim_init) = true)
    (e_NoRow_init : PySem.W.findIn K (.ref C_NoRow) "__init__" = some (some (.ref f_NoRow_init)))
    (i_NoRow_init : PySem.W.isFn K (.ref f_NoRow_init) = true)
    (l_NoRow_init : K.lookup f_NoRow_init = some ⟨oc_NoRow_init, od_NoRow_init, .func (PySem.W.fnOf "__init__" "NoRow.__init__" (defArgs s_NoRow_init) (defBody s_NoRow_init) (defScope s_NoRow_init) .none kV_NoRow_init dc_NoRow_init pm_NoRow_init an_NoRow_init cd_NoRow_init ct_NoRow_init), sl_NoRow_init⟩)
    (c_NoRow_init : PySem.W.codeIn K cd_NoRow_init "NoRow.__init__" = true)
    (k_NoRow_init : PySem.W.keepIn K (.ref f_NoRow_init) = true)
    (e_NoOrder_init : PySem.W.findIn K (.ref C_NoOrder) "__init__" = some (some (.ref f_NoOrder_init)))
    (i_NoOrder_init : PySem.W.isFn K (.ref f_NoOrder_init) = true)
    (l_NoOrder_init : K.lookup f_NoOrder_init = some ⟨oc_NoOrder_init, od_NoOrder_init, .func (PySem.W.fnOf "__init__" "NoOrder.__init__" (defArgs s_NoOrder_init) (defBody s_NoOrder_init) (defScope s_NoOrder_init) .none kV_NoOrder_init dc_NoOrder_init pm_NoOrder_init an_NoOrder_init cd_NoOrder_init ct_NoOrder_init), sl_NoOrder_init⟩)
    (c_NoOrder_init : PySem.W.codeIn K cd_NoOrder_init "NoOrder.__init__" = true)
    (k_NoOrder_init : PySem.W.keepIn K (.ref f_NoOrder_init) = true)
    (e_NoArrangement_init : PySem.W.findIn K (.ref C_NoArrangement) "__init__" = some (some (.ref f_NoArrangement_init)))
    (i_NoArrangement_init : PySem.W.isFn K (.ref f_NoArrangement_init) = true)
    (l_NoArrangement_init : K.lookup f_NoArrangement_init = some ⟨oc_NoArrangement_init, od_NoArrangement_init, .func (PySem.W.fnOf "__init__" "NoArrangement.__init__" (defArgs s_NoArrangement_init) (defBody s_NoArrangement_init) (defScope s_NoArrangement_init) .none kV_NoArrangement_init dc_NoArrangement_init pm_NoArrangement_init an_NoArrangement_init cd_NoArrangement_init ct_NoArrangement_init), sl_NoArrangement_init⟩)
    (c_NoArrangement_init : PySem.W.codeIn K cd_NoArrangement_init "NoArrangement.__init__" = true)
    (k_NoArrangement_init : PySem.W.keepIn K (.ref f_NoArrangement_init) = true)
    (e_Full_init : PySem.W.findIn K (.ref C_Full) "__init__" = some (some (.ref f_Full_init)))
    (i_Full_init : PySem.W.isFn K (.ref f_Full_init) = true)
    (l_Full_init : K.lookup f_Full_init = some ⟨oc_Full_init, od_Full_init, .func (PySem.W.fnOf "__init__" "Full.__init__" (defArgs s_Full_init) (defBody s_Full_init) (defScope s_Full_init) .none kV_Full_init dc_Full_init pm_Full_init an_Full_init cd_Full_init ct_Full_init), sl_Full_init⟩)
    (c_Full_init : PySem.W.codeIn K cd_Full_init "Full.__init__" = true)
    (k_Full_init : PySem.W.keepIn K (.ref f_Full_init) = true)
    (e_Away_init : PySem.W.findIn K (.ref C_Away) "__init__" = some (some (.ref f_Away_init)))
    (i_Away_init : PySem.W.isFn K (.ref f_Away_init) = true)
    (l_Away_init : K.lookup f_Away_init = some ⟨oc_Away_init, od_Away_init, .func (PySem.W.fnOf "__init__" "Away.__init__" (defArgs s_Away_init) (defBody s_Away_init) (defScope s_Away_init) .none kV_Away_init dc_Away_init pm_Away_init an_Away_init cd_Away_init ct_Away_init), sl_Away_init⟩)
    (c_Away_init : PySem.W.codeIn K cd_Away_init "Away.__init__" = true)
    (k_Away_init : PySem.W.keepIn K (.ref f_Away_init) = true)
    (e_There_init : PySem.W.findIn K (.ref C_There) "__init__" = some (some (.ref f_There_init)))
    (i_There_init : PySem.W.isFn K (.ref f_There_init) = true)
    (l_There_init : K.lookup f_There_init = some ⟨oc_There_init, od_There_init, .func (PySem.W.fnOf "__init__" "There.__init__" (defArgs s_There_init) (defBody s_There_init) (defScope s_There_init) .none kV_There_init dc_There_init pm_There_init an_There_init cd_There_init ct_There_init), sl_There_init⟩)
    (c_There_init : PySem.W.codeIn K cd_There_init "There.__init__" = true)
    (k_There_init : PySem.W.keepIn K (.ref f_There_init) = true)
    (ti_Wrong : PySem.W.typeIn K (.ref f_Wrong_init) = some (.type "function"))
    (ti_NoCall : PySem.W.typeIn K (.ref f_NoCall_init) = some (.type "function"))
    (ti_NoPlace : PySem.W.typeIn K (.ref f_NoPlace_init) = some (.type "function"))
    (ti_NoPupil : PySem.W.typeIn K (.ref f_NoPupil_init) = some (.type "function"))
    (ti_NoWish : PySem.W.typeIn K (.ref f_NoWish_init) = some (.type "function"))
    (ti_NoStep : PySem.W.typeIn K (.ref f_NoStep_init) = some (.type "function"))
    (ti_NoClaim : PySem.W.typeIn K (.ref f_NoClaim_init) = some (.type "function"))
    (ti_NoRow : PySem.W.typeIn K (.ref f_NoRow_init) = some (.type "function"))
    (ti_NoOrder : PySem.W.typeIn K (.ref f_NoOrder_init) = some (.type "function"))
    (ti_NoArrangement : PySem.W.typeIn K (.ref f_NoArrangement_init) = some (.type "function"))
    (ti_Full : PySem.W.typeIn K (.ref f_Full_init) = some (.type "function"))
    (ti_Away : PySem.W.typeIn K (.ref f_Away_init) = some (.type "function"))
    (ti_There : PySem.W.typeIn K (.ref f_There_init) = some (.type "function"))
    (z_len : PySem.W.nsIn K mainGlobals "len" = some none)
    (z_abs : PySem.W.nsIn K mainGlobals "abs" = some none)
    (z_int : PySem.W.nsIn K mainGlobals "int" = some none)
    (z_list : PySem.W.nsIn K mainGlobals "list" = some none)
    (z_range : PySem.W.nsIn K mainGlobals "range" = some none)
    (z_isinstance : PySem.W.nsIn K mainGlobals "isinstance" = some none)
    (z_dict : PySem.W.nsIn K mainGlobals "dict" = some none)
    (z_enumerate : PySem.W.nsIn K mainGlobals "enumerate" = some none)
    (z_ValueError : PySem.W.nsIn K mainGlobals "ValueError" = some none) :
    ∃ fd : FuncData, (∀ (s : Shared) (v : Value), BindsTo s fd ⟨[v], []⟩ [("_law_script", v)]) ∧ ∀ base : Heap, K.In base → base.Ns mainGlobals mg → FnOk l.prog w K mg base CX0 4 fa fd ["_law_script"] (sp_law K) := by
  have e := hfa.symm.trans (PySem.W.mg_of X G a_law)
  cases e
  have T : Txt K w mg { c_PupilError := C_PupilError, c_Wrong := C_Wrong, c_NoCall := C_NoCall, c_Unlike := C_Unlike, c_NoPlace := C_NoPlace, c_NoPupil := C_NoPupil, c_Open := C_Open, c_NoWish := C_NoWish, c_NoStep := C_NoStep, c_NoClaim := C_NoClaim, c_NoRow := C_NoRow, c_NoOrder := C_NoOrder, c_NoArrangement := C_NoArrangement, c_Full := C_Full, c_Nothing := C_Nothing, c_Away := C_Away, c_There := C_There, c_NoText := C_NoText, c_NoCommand := C_NoCommand, a_Lbag := f_Lbag, fd_Lbag := PySem.W.fnOf "_law_bag" "_law_bag" (defArgs s_Lbag) (defBody s_Lbag) (defScope s_Lbag) .none kV_Lbag dc_Lbag pm_Lbag an_Lbag cd_Lbag ct_Lbag, a_Ltake := f_Ltake, fd_Ltake := PySem.W.fnOf "_law_take" "_law_take" (defArgs s_Ltake) (defBody s_Ltake) (defScope s_Ltake) .none kV_Ltake dc_Ltake pm_Ltake an_Ltake cd_Ltake ct_Ltake, a_Lone := f_Lone, fd_Lone := PySem.W.fnOf "_law_one" "_law_one" (defArgs s_Lone) (defBody s_Lone) (defScope s_Lone) .none kV_Lone dc_Lone pm_Lone an_Lone cd_Lone ct_Lone, a_Lvalue := f_Lvalue, fd_Lvalue := PySem.W.fnOf "_law_value" "_law_value" (defArgs s_Lvalue) (defBody s_Lvalue) (defScope s_Lvalue) .none kV_Lvalue dc_Lvalue pm_Lvalue an_Lvalue cd_Lvalue ct_Lvalue, a_Lerrors := f_Lerrors, fd_Lerrors := PySem.W.fnOf "_law_errors" "_law_errors" (defArgs s_Lerrors) (defBody s_Lerrors) (defScope s_Lerrors) .none kV_Lerrors dc_Lerrors pm_Lerrors an_Lerrors cd_Lerrors ct_Lerrors, a_Lflags := f_Lflags, fd_Lflags := PySem.W.fnOf "_law_flags" "_law_flags" (defArgs s_Lflags) (defBody s_Lflags) (defScope s_Lflags) .none kV_Lflags dc_Lflags pm_Lflags an_Lflags cd_Lflags ct_Lflags, a_Lfields := f_Lfields, fd_Lfields := PySem.W.fnOf "_law_fields" "_law_fields" (defArgs s_Lfields) (defBody s_Lfields) (defScope s_Lfields) .none kV_Lfields dc_Lfields pm_Lfields an_Lfields cd_Lfields ct_Lfields, a_law := fa, fd_law := PySem.W.fnOf "law" "law" (defArgs s_law) (defBody s_law) (defScope s_law) .none kV_law dc_law pm_law an_law cd_law ct_law, a_Wrong_init := f_Wrong_init, fd_Wrong_init := PySem.W.fnOf "__init__" "Wrong.__init__" (defArgs s_Wrong_init) (defBody s_Wrong_init) (defScope s_Wrong_init) .none kV_Wrong_init dc_Wrong_init pm_Wrong_init an_Wrong_init cd_Wrong_init ct_Wrong_init, a_NoCall_init := f_NoCall_init, fd_NoCall_init := PySem.W.fnOf "__init__" "NoCall.__init__" (defArgs s_NoCall_init) (defBody s_NoCall_init) (defScope s_NoCall_init) .none kV_NoCall_init dc_NoCall_init pm_NoCall_init an_NoCall_init cd_NoCall_init ct_NoCall_init, a_NoPlace_init := f_NoPlace_init, fd_NoPlace_init := PySem.W.fnOf "__init__" "NoPlace.__init__" (defArgs s_NoPlace_init) (defBody s_NoPlace_init) (defScope s_NoPlace_init) .none kV_NoPlace_init dc_NoPlace_init pm_NoPlace_init an_NoPlace_init cd_NoPlace_init ct_NoPlace_init, a_NoPupil_init := f_NoPupil_init, fd_NoPupil_init := PySem.W.fnOf "__init__" "NoPupil.__init__" (defArgs s_NoPupil_init) (defBody s_NoPupil_init) (defScope s_NoPupil_init) .none kV_NoPupil_init dc_NoPupil_init pm_NoPupil_init an_NoPupil_init cd_NoPupil_init ct_NoPupil_init, a_NoWish_init := f_NoWish_init, fd_NoWish_init := PySem.W.fnOf "__init__" "NoWish.__init__" (defArgs s_NoWish_init) (defBody s_NoWish_init) (defScope s_NoWish_init) .none kV_NoWish_init dc_NoWish_init pm_NoWish_init an_NoWish_init cd_NoWish_init ct_NoWish_init, a_NoStep_init := f_NoStep_init, fd_NoStep_init := PySem.W.fnOf "__init__" "NoStep.__init__" (defArgs s_NoStep_init) (defBody s_NoStep_init) (defScope s_NoStep_init) .none kV_NoStep_init dc_NoStep_init pm_NoStep_init an_NoStep_init cd_NoStep_init ct_NoStep_init, a_NoClaim_init := f_NoClaim_init, fd_NoClaim_init := PySem.W.fnOf "__init__" "NoClaim.__init__" (defArgs s_NoClaim_init) (defBody s_NoClaim_init) (defScope s_NoClaim_init) .none kV_NoClaim_init dc_NoClaim_init pm_NoClaim_init an_NoClaim_init cd_NoClaim_init ct_NoClaim_init, a_NoRow_init := f_NoRow_init, fd_NoRow_init := PySem.W.fnOf "__init__" "NoRow.__init__" (defArgs s_NoRow_init) (defBody s_NoRow_init) (defScope s_NoRow_init) .none kV_NoRow_init dc_NoRow_init pm_NoRow_init an_NoRow_init cd_NoRow_init ct_NoRow_init, a_NoOrder_init := f_NoOrder_init, fd_NoOrder_init := PySem.W.fnOf "__init__" "NoOrder.__init__" (defArgs s_NoOrder_init) (defBody s_NoOrder_init) (defScope s_NoOrder_init) .none kV_NoOrder_init dc_NoOrder_init pm_NoOrder_init an_NoOrder_init cd_NoOrder_init ct_NoOrder_init, a_NoArrangement_init := f_NoArrangement_init, fd_NoArrangement_init := PySem.W.fnOf "__init__" "NoArrangement.__init__" (defArgs s_NoArrangement_init) (defBody s_NoArrangement_init) (defScope s_NoArrangement_init) .none kV_NoArrangement_init dc_NoArrangement_init pm_NoArrangement_init an_NoArrangement_init cd_NoArrangement_init ct_NoArrangement_init, a_Full_init := f_Full_init, fd_Full_init := PySem.W.fnOf "__init__" "Full.__init__" (defArgs s_Full_init) (defBody s_Full_init) (defScope s_Full_init) .none kV_Full_init dc_Full_init pm_Full_init an_Full_init cd_Full_init ct_Full_init, a_Away_init := f_Away_init, fd_Away_init := PySem.W.fnOf "__init__" "Away.__init__" (defArgs s_Away_init) (defBody s_Away_init) (defScope s_Away_init) .none kV_Away_init dc_Away_init pm_Away_init an_Away_init cd_Away_init ct_Away_init, a_There_init := f_There_init, fd_There_init := PySem.W.fnOf "__init__" "There.__init__" (defArgs s_There_init) (defBody s_There_init) (defScope s_There_init) .none kV_There_init dc_There_init pm_There_init an_There_init cd_There_init ct_There_init } := { m_PupilError := PySem.W.mg_of X G g_PupilError, x_PupilError := ⟨⟨⟨_, _, _, _, _, _, _, _, _, _, _, _, _, _, _, xl_PupilError, by rfl⟩, sa_PupilError, ex_PupilError, ty_PupilError, kc_PupilError⟩, ga_PupilError, gg_PupilError, hd_PupilError, ha_PupilError, hgt, htk, hm_PupilError⟩, x0_PupilError := x0_PupilError, m_Wrong := PySem.W.mg_of X G g_Wrong, x_Wrong := ⟨⟨⟨_, _, _, _, _, _, _, _, _, _, _, _, _, _, _, xl_Wrong, by rfl⟩, sa_Wrong, ex_Wrong, ty_Wrong, kc_Wrong⟩, ga_Wrong, gg_Wrong, hd_Wrong, ha_Wrong, hgt, htk, hm_Wrong⟩, i_Wrong := e_Wrong_init, ti_Wrong := ti_Wrong, N_Wrong_place := N_Wrong_place, m_NoCall := PySem.W.mg_of X G g_NoCall, x_NoCall := ⟨⟨⟨_, _, _, _, _, _, _, _, _, _, _, _, _, _, _, xl_NoCall, by rfl⟩, sa_NoCall, ex_NoCall, ty_NoCall, kc_NoCall⟩, ga_NoCall, gg_NoCall, hd_NoCall, ha_NoCall, hgt, htk, hm_NoCall⟩, i_NoCall := e_NoCall_init, ti_NoCall := ti_NoCall, N_NoCall_thing := N_NoCall_thing, m_Unlike := PySem.W.mg_of X G g_Unlike, x_Unlike := ⟨⟨⟨_, _, _, _, _, _, _, _, _, _, _, _, _, _, _, xl_Unlike, by rfl⟩, sa_Unlike, ex_Unlike, ty_Unlike, kc_Unlike⟩, ga_Unlike, gg_Unlike, hd_Unlike, ha_Unlike, hgt, htk, hm_Unlike⟩, x0_Unlike := x0_Unlike, m_NoPlace := PySem.W.mg_of X G g_NoPlace, x_NoPlace := ⟨⟨⟨_, _, _, _, _, _, _, _, _, _, _, _, _, _, _, xl_NoPlace, by rfl⟩, sa_NoPlace, ex_NoPlace, ty_NoPlace, kc_NoPlace⟩, ga_NoPlace, gg_NoPlace, hd_NoPlace, ha_NoPlace, hgt, htk, hm_NoPlace⟩, i_NoPlace := e_NoPlace_init, ti_NoPlace := ti_NoPlace, N_NoPlace_place := N_NoPlace_place, m_NoPupil := PySem.W.mg_of X G g_NoPupil, x_NoPupil := ⟨⟨⟨_, _, _, _, _, _, _, _, _, _, _, _, _, _, _, xl_NoPupil, by rfl⟩, sa_NoPupil, ex_NoPupil, ty_NoPupil, kc_NoPupil⟩, ga_NoPupil, gg_NoPupil, hd_NoPupil, ha_NoPupil, hgt, htk, hm_NoPupil⟩, i_NoPupil := e_NoPupil_init, ti_NoPupil := ti_NoPupil, N_NoPupil_pupil := N_NoPupil_pupil, m_Open := PySem.W.mg_of X G g_Open, x_Open := ⟨⟨⟨_, _, _, _, _, _, _, _, _, _, _, _, _, _, _, xl_Open, by rfl⟩, sa_Open, ex_Open, ty_Open, kc_Open⟩, ga_Open, gg_Open, hd_Open, ha_Open, hgt, htk, hm_Open⟩, x0_Open := x0_Open, m_NoWish := PySem.W.mg_of X G g_NoWish, x_NoWish := ⟨⟨⟨_, _, _, _, _, _, _, _, _, _, _, _, _, _, _, xl_NoWish, by rfl⟩, sa_NoWish, ex_NoWish, ty_NoWish, kc_NoWish⟩, ga_NoWish, gg_NoWish, hd_NoWish, ha_NoWish, hgt, htk, hm_NoWish⟩, i_NoWish := e_NoWish_init, ti_NoWish := ti_NoWish, N_NoWish_wish := N_NoWish_wish, m_NoStep := PySem.W.mg_of X G g_NoStep, x_NoStep := ⟨⟨⟨_, _, _, _, _, _, _, _, _, _, _, _, _, _, _, xl_NoStep, by rfl⟩, sa_NoStep, ex_NoStep, ty_NoStep, kc_NoStep⟩, ga_NoStep, gg_NoStep, hd_NoStep, ha_NoStep, hgt, htk, hm_NoStep⟩, i_NoStep := e_NoStep_init, ti_NoStep := ti_NoStep, N_NoStep_step := N_NoStep_step, m_NoClaim := PySem.W.mg_of X G g_NoClaim, x_NoClaim := ⟨⟨⟨_, _, _, _, _, _, _, _, _, _, _, _, _, _, _, xl_NoClaim, by rfl⟩, sa_NoClaim, ex_NoClaim, ty_NoClaim, kc_NoClaim⟩, ga_NoClaim, gg_NoClaim, hd_NoClaim, ha_NoClaim, hgt, htk, hm_NoClaim⟩, i_NoClaim := e_NoClaim_init, ti_NoClaim := ti_NoClaim, N_NoClaim_claim := N_NoClaim_claim, m_NoRow := PySem.W.mg_of X G g_NoRow, x_NoRow := ⟨⟨⟨_, _, _, _, _, _, _, _, _, _, _, _, _, _, _, xl_NoRow, by rfl⟩, sa_NoRow, ex_NoRow, ty_NoRow, kc_NoRow⟩, ga_NoRow, gg_NoRow, hd_NoRow, ha_NoRow, hgt, htk, hm_NoRow⟩, i_NoRow := e_NoRow_init, ti_NoRow := ti_NoRow, N_NoRow_row := N_NoRow_row, m_NoOrder := PySem.W.mg_of X G g_NoOrder, x_NoOrder := ⟨⟨⟨_, _, _, _, _, _, _, _, _, _, _, _, _, _, _, xl_NoOrder, by rfl⟩, sa_NoOrder, ex_NoOrder, ty_NoOrder, kc_NoOrder⟩, ga_NoOrder, gg_NoOrder, hd_NoOrder, ha_NoOrder, hgt, htk, hm_NoOrder⟩, i_NoOrder := e_NoOrder_init, ti_NoOrder := ti_NoOrder, N_NoOrder_base := N_NoOrder_base, N_NoOrder_modulus := N_NoOrder_modulus, m_NoArrangement := PySem.W.mg_of X G g_NoArrangement, x_NoArrangement := ⟨⟨⟨_, _, _, _, _, _, _, _, _, _, _, _, _, _, _, xl_NoArrangement, by rfl⟩, sa_NoArrangement, ex_NoArrangement, ty_NoArrangement, kc_NoArrangement⟩, ga_NoArrangement, gg_NoArrangement, hd_NoArrangement, ha_NoArrangement, hgt, htk, hm_NoArrangement⟩, i_NoArrangement := e_NoArrangement_init, ti_NoArrangement := ti_NoArrangement, N_NoArrangement_thing := N_NoArrangement_thing, m_Full := PySem.W.mg_of X G g_Full, x_Full := ⟨⟨⟨_, _, _, _, _, _, _, _, _, _, _, _, _, _, _, xl_Full, by rfl⟩, sa_Full, ex_Full, ty_Full, kc_Full⟩, ga_Full, gg_Full, hd_Full, ha_Full, hgt, htk, hm_Full⟩, i_Full := e_Full_init, ti_Full := ti_Full, N_Full_limit := N_Full_limit, m_Nothing := PySem.W.mg_of X G g_Nothing, x_Nothing := ⟨⟨⟨_, _, _, _, _, _, _, _, _, _, _, _, _, _, _, xl_Nothing, by rfl⟩, sa_Nothing, ex_Nothing, ty_Nothing, kc_Nothing⟩, ga_Nothing, gg_Nothing, hd_Nothing, ha_Nothing, hgt, htk, hm_Nothing⟩, x0_Nothing := x0_Nothing, m_Away := PySem.W.mg_of X G g_Away, x_Away := ⟨⟨⟨_, _, _, _, _, _, _, _, _, _, _, _, _, _, _, xl_Away, by rfl⟩, sa_Away, ex_Away, ty_Away, kc_Away⟩, ga_Away, gg_Away, hd_Away, ha_Away, hgt, htk, hm_Away⟩, i_Away := e_Away_init, ti_Away := ti_Away, N_Away_pupil := N_Away_pupil, m_There := PySem.W.mg_of X G g_There, x_There := ⟨⟨⟨_, _, _, _, _, _, _, _, _, _, _, _, _, _, _, xl_There, by rfl⟩, sa_There, ex_There, ty_There, kc_There⟩, ga_There, gg_There, hd_There, ha_There, hgt, htk, hm_There⟩, i_There := e_There_init, ti_There := ti_There, N_There_pupil := N_There_pupil, m_NoText := PySem.W.mg_of X G g_NoText, x_NoText := ⟨⟨⟨_, _, _, _, _, _, _, _, _, _, _, _, _, _, _, xl_NoText, by rfl⟩, sa_NoText, ex_NoText, ty_NoText, kc_NoText⟩, ga_NoText, gg_NoText, hd_NoText, ha_NoText, hgt, htk, hm_NoText⟩, x0_NoText := x0_NoText, m_NoCommand := PySem.W.mg_of X G g_NoCommand, x_NoCommand := ⟨⟨⟨_, _, _, _, _, _, _, _, _, _, _, _, _, _, _, xl_NoCommand, by rfl⟩, sa_NoCommand, ex_NoCommand, ty_NoCommand, kc_NoCommand⟩, ga_NoCommand, gg_NoCommand, hd_NoCommand, ha_NoCommand, hgt, htk, hm_NoCommand⟩, x0_NoCommand := x0_NoCommand, kt := kt, ka_PupilError := ka_PupilError, ka_VE := ka_VE, m_Lbag := PySem.W.mg_of X G a_Lbag, F_Lbag := fun_mk (st := s_Lbag) l_Lbag c_Lbag k_Lbag, k_Lbag := k_Lbag, b_Lbag := (fun_mk (st := s_Lbag) l_Lbag c_Lbag k_Lbag).binds (ps := ["_law_script"]) fun _ _ _ _ _ _ us hl => match us, hl with | [_], _ => rfl, m_Ltake := PySem.W.mg_of X G a_Ltake, F_Ltake := fun_mk (st := s_Ltake) l_Ltake c_Ltake k_Ltake, k_Ltake := k_Ltake, b_Ltake := (fun_mk (st := s_Ltake) l_Ltake c_Ltake k_Ltake).binds (ps := ["_law_bag_here", "_law_many"]) fun _ _ _ _ _ _ us hl => match us, hl with | [_, _], _ => rfl, m_Lone := PySem.W.mg_of X G a_Lone, F_Lone := fun_mk (st := s_Lone) l_Lone c_Lone k_Lone, k_Lone := k_Lone, b_Lone := (fun_mk (st := s_Lone) l_Lone c_Lone k_Lone).binds (ps := ["_law_bag_here", "_law_some"]) fun _ _ _ _ _ _ us hl => match us, hl with | [_, _], _ => rfl, m_Lvalue := PySem.W.mg_of X G a_Lvalue, F_Lvalue := fun_mk (st := s_Lvalue) l_Lvalue c_Lvalue k_Lvalue, k_Lvalue := k_Lvalue, b_Lvalue := (fun_mk (st := s_Lvalue) l_Lvalue c_Lvalue k_Lvalue).binds (ps := ["_law_bag_here"]) fun _ _ _ _ _ _ us hl => match us, hl with | [_], _ => rfl, m_Lerrors := PySem.W.mg_of X G a_Lerrors, F_Lerrors := fun_mk (st := s_Lerrors) l_Lerrors c_Lerrors k_Lerrors, k_Lerrors := k_Lerrors, b_Lerrors := (fun_mk (st := s_Lerrors) l_Lerrors c_Lerrors k_Lerrors).binds (ps := ["_law_x", "_law_y"]) fun _ _ _ _ _ _ us hl => match us, hl with | [_, _], _ => rfl, m_Lflags := PySem.W.mg_of X G a_Lflags, F_Lflags := fun_mk (st := s_Lflags) l_Lflags c_Lflags k_Lflags, k_Lflags := k_Lflags, b_Lflags := (fun_mk (st := s_Lflags) l_Lflags c_Lflags k_Lflags).binds (ps := ["_law_e"]) fun _ _ _ _ _ _ us hl => match us, hl with | [_], _ => rfl, m_Lfields := PySem.W.mg_of X G a_Lfields, F_Lfields := fun_mk (st := s_Lfields) l_Lfields c_Lfields k_Lfields, k_Lfields := k_Lfields, b_Lfields := (fun_mk (st := s_Lfields) l_Lfields c_Lfields k_Lfields).binds (ps := ["_law_some"]) fun _ _ _ _ _ _ us hl => match us, hl with | [_], _ => rfl, m_law := PySem.W.mg_of X G a_law, F_law := fun_mk (st := s_law) l_law c_law k_law, k_law := k_law, b_law := (fun_mk (st := s_law) l_law c_law k_law).binds (ps := ["_law_script"]) fun _ _ _ _ _ _ us hl => match us, hl with | [_], _ => rfl, F_Wrong_init := fun_mk (st := s_Wrong_init) l_Wrong_init c_Wrong_init k_Wrong_init, k_Wrong_init := k_Wrong_init, b_Wrong_init := (fun_mk (st := s_Wrong_init) l_Wrong_init c_Wrong_init k_Wrong_init).binds (ps := ["self", "place"]) fun _ _ _ _ _ _ us hl => match us, hl with | [_, _], _ => rfl, F_NoCall_init := fun_mk (st := s_NoCall_init) l_NoCall_init c_NoCall_init k_NoCall_init, k_NoCall_init := k_NoCall_init, b_NoCall_init := (fun_mk (st := s_NoCall_init) l_NoCall_init c_NoCall_init k_NoCall_init).binds (ps := ["self", "thing"]) fun _ _ _ _ _ _ us hl => match us, hl with | [_, _], _ => rfl, F_NoPlace_init := fun_mk (st := s_NoPlace_init) l_NoPlace_init c_NoPlace_init k_NoPlace_init, k_NoPlace_init := k_NoPlace_init, b_NoPlace_init := (fun_mk (st := s_NoPlace_init) l_NoPlace_init c_NoPlace_init k_NoPlace_init).binds (ps := ["self", "place"]) fun _ _ _ _ _ _ us hl => match us, hl with | [_, _], _ => rfl, F_NoPupil_init := fun_mk (st := s_NoPupil_init) l_NoPupil_init c_NoPupil_init k_NoPupil_init, k_NoPupil_init := k_NoPupil_init, b_NoPupil_init := (fun_mk (st := s_NoPupil_init) l_NoPupil_init c_NoPupil_init k_NoPupil_init).binds (ps := ["self", "pupil"]) fun _ _ _ _ _ _ us hl => match us, hl with | [_, _], _ => rfl, F_NoWish_init := fun_mk (st := s_NoWish_init) l_NoWish_init c_NoWish_init k_NoWish_init, k_NoWish_init := k_NoWish_init, b_NoWish_init := (fun_mk (st := s_NoWish_init) l_NoWish_init c_NoWish_init k_NoWish_init).binds (ps := ["self", "wish"]) fun _ _ _ _ _ _ us hl => match us, hl with | [_, _], _ => rfl, F_NoStep_init := fun_mk (st := s_NoStep_init) l_NoStep_init c_NoStep_init k_NoStep_init, k_NoStep_init := k_NoStep_init, b_NoStep_init := (fun_mk (st := s_NoStep_init) l_NoStep_init c_NoStep_init k_NoStep_init).binds (ps := ["self", "step"]) fun _ _ _ _ _ _ us hl => match us, hl with | [_, _], _ => rfl, F_NoClaim_init := fun_mk (st := s_NoClaim_init) l_NoClaim_init c_NoClaim_init k_NoClaim_init, k_NoClaim_init := k_NoClaim_init, b_NoClaim_init := (fun_mk (st := s_NoClaim_init) l_NoClaim_init c_NoClaim_init k_NoClaim_init).binds (ps := ["self", "claim"]) fun _ _ _ _ _ _ us hl => match us, hl with | [_, _], _ => rfl, F_NoRow_init := fun_mk (st := s_NoRow_init) l_NoRow_init c_NoRow_init k_NoRow_init, k_NoRow_init := k_NoRow_init, b_NoRow_init := (fun_mk (st := s_NoRow_init) l_NoRow_init c_NoRow_init k_NoRow_init).binds (ps := ["self", "row"]) fun _ _ _ _ _ _ us hl => match us, hl with | [_, _], _ => rfl, F_NoOrder_init := fun_mk (st := s_NoOrder_init) l_NoOrder_init c_NoOrder_init k_NoOrder_init, k_NoOrder_init := k_NoOrder_init, b_NoOrder_init := (fun_mk (st := s_NoOrder_init) l_NoOrder_init c_NoOrder_init k_NoOrder_init).binds (ps := ["self", "base", "modulus"]) fun _ _ _ _ _ _ us hl => match us, hl with | [_, _, _], _ => rfl, F_NoArrangement_init := fun_mk (st := s_NoArrangement_init) l_NoArrangement_init c_NoArrangement_init k_NoArrangement_init, k_NoArrangement_init := k_NoArrangement_init, b_NoArrangement_init := (fun_mk (st := s_NoArrangement_init) l_NoArrangement_init c_NoArrangement_init k_NoArrangement_init).binds (ps := ["self", "thing"]) fun _ _ _ _ _ _ us hl => match us, hl with | [_, _], _ => rfl, F_Full_init := fun_mk (st := s_Full_init) l_Full_init c_Full_init k_Full_init, k_Full_init := k_Full_init, b_Full_init := (fun_mk (st := s_Full_init) l_Full_init c_Full_init k_Full_init).binds (ps := ["self", "limit"]) fun _ _ _ _ _ _ us hl => match us, hl with | [_, _], _ => rfl, F_Away_init := fun_mk (st := s_Away_init) l_Away_init c_Away_init k_Away_init, k_Away_init := k_Away_init, b_Away_init := (fun_mk (st := s_Away_init) l_Away_init c_Away_init k_Away_init).binds (ps := ["self", "pupil"]) fun _ _ _ _ _ _ us hl => match us, hl with | [_, _], _ => rfl, F_There_init := fun_mk (st := s_There_init) l_There_init c_There_init k_There_init, k_There_init := k_There_init, b_There_init := (fun_mk (st := s_There_init) l_There_init c_There_init k_There_init).binds (ps := ["self", "pupil"]) fun _ _ _ _ _ _ us hl => match us, hl with | [_, _], _ => rfl, n_len := PySem.W.mg_none_of X G z_len, n_abs := PySem.W.mg_none_of X G z_abs, n_int := PySem.W.mg_none_of X G z_int, n_list := PySem.W.mg_none_of X G z_list, n_range := PySem.W.mg_none_of X G z_range, n_isinstance := PySem.W.mg_none_of X G z_isinstance, n_dict := PySem.W.mg_none_of X G z_dict, n_enumerate := PySem.W.mg_none_of X G z_enumerate, n_ValueError := PySem.W.mg_none_of X G z_ValueError }
  exact ⟨_, fun s v => .of_eq rfl, fun base _ _ => ok_law T⟩
theorem walk {l : PySem.W.OpenLaw} {q : Program} {loose : List Str} {XP : (Str → Option Value) → Heap → Prop} {YP : World → Heap → Prop} {d : DefRec} {K : Params → PySem.W.Frag} (hn : l.most = some 63) (hdf : d.params.defaults = [])
    (hY : ∀ (w : World) (h : Heap), YP w h → (K w.params).In h)
    (F : ∀ (w : World) (mg : Str → Option Value) (fa : Addr) (h : Heap), (K w.params).In h → h.Ns mainGlobals mg → mg d.name = some (.ref fa) →
      ∃ fd : FuncData, (∀ (s : Shared) (u : Value), BindsTo s fd ⟨[u], []⟩ [("_law_script", u)]) ∧ ∀ base : Heap, (K w.params).In base → base.Ns mainGlobals mg → FnOk l.prog w (K w.params) mg base CX0 4 fa fd ["_law_script"] (sp_law (K w.params))) :
    PySem.W.WalkO q loose XP YP l.row.toRowW d [] (fun f vs => PySem.call f vs) :=
  L2.walk_of (n := 63) (k := 4) (x := "_law_script") (CX := fun _ => CX0) (sp := fun w => sp_law (K w.params)) hn (by decide) hdf ⟨rfl, by decide, by decide⟩ hY F (fun w H a ns hl _ hS => law_start hl hS) fun _ _ _ _ _ z => z
end My
open PySem PySem.W PyProof.Rows in
set_option maxRecDepth 100000 in
set_option maxHeartbeats 0 in
theorem PySem.Challenge.cw_pupilpairs_k10_errors_apart_holds : PySem.Challenge.rw_pupilpairs_k10_errors_apart.Holds := by
  w_on; o_law; k_head; (case hw => w_witness2)
  k_fill
  refine My.walk (l := PySem.Challenge.rw_pupilpairs_k10_errors_apart) rfl rfl (fun w h Y => PySem.W.kIn_of Y) ?F
  case F =>
    intro w mg fa h KX G hmg
    refine' My.all_mk KX G hmg ?g_PupilError ?xl_PupilError ?sa_PupilError ?ex_PupilError ?ty_PupilError ?kc_PupilError ?ga_PupilError ?gg_PupilError ?hd_PupilError ?ha_PupilError ?hm_PupilError ?x0_PupilError ?g_Wrong ?xl_Wrong ?sa_Wrong ?ex_Wrong ?ty_Wrong ?kc_Wrong ?ga_Wrong ?gg_Wrong ?hd_Wrong ?ha_Wrong ?hm_Wrong ?N_Wrong_place ?g_NoCall ?xl_NoCall ?sa_NoCall ?ex_NoCall ?ty_NoCall ?kc_NoCall ?ga_NoCall ?gg_NoCall ?hd_NoCall ?ha_NoCall ?hm_NoCall ?N_NoCall_thing ?g_Unlike ?xl_Unlike ?sa_Unlike ?ex_Unlike ?ty_Unlike ?kc_Unlike ?ga_Unlike ?gg_Unlike ?hd_Unlike ?ha_Unlike ?hm_Unlike ?x0_Unlike ?g_NoPlace ?xl_NoPlace ?sa_NoPlace ?ex_NoPlace ?ty_NoPlace ?kc_NoPlace ?ga_NoPlace ?gg_NoPlace ?hd_NoPlace ?ha_NoPlace ?hm_NoPlace ?N_NoPlace_place ?g_NoPupil ?xl_NoPupil ?sa_NoPupil ?ex_NoPupil ?ty_NoPupil ?kc_NoPupil ?ga_NoPupil ?gg_NoPupil ?hd_NoPupil ?ha_NoPupil ?hm_NoPupil ?N_NoPupil_pupil ?g_Open ?xl_Open ?sa_Open ?ex_Open ?ty_Open ?kc_Open ?ga_Open ?gg_Open ?hd_Open ?ha_Open ?hm_Open ?x0_Open ?g_NoWish ?xl_NoWish ?sa_NoWish ?ex_NoWish ?ty_NoWish ?kc_NoWish ?ga_NoWish ?gg_NoWish ?hd_NoWish ?ha_NoWish ?hm_NoWish ?N_NoWish_wish ?g_NoStep ?xl_NoStep ?sa_NoStep ?ex_NoStep ?ty_NoStep ?kc_NoStep ?ga_NoStep ?gg_NoStep ?hd_NoStep ?ha_NoStep ?hm_NoStep ?N_NoStep_step ?g_NoClaim ?xl_NoClaim ?sa_NoClaim ?ex_NoClaim ?ty_NoClaim ?kc_NoClaim ?ga_NoClaim ?gg_NoClaim ?hd_NoClaim ?ha_NoClaim ?hm_NoClaim ?N_NoClaim_claim ?g_NoRow ?xl_NoRow ?sa_NoRow ?ex_NoRow ?ty_NoRow ?kc_NoRow ?ga_NoRow ?gg_NoRow ?hd_NoRow ?ha_NoRow ?hm_NoRow ?N_NoRow_row ?g_NoOrder ?xl_NoOrder ?sa_NoOrder ?ex_NoOrder ?ty_NoOrder ?kc_NoOrder ?ga_NoOrder ?gg_NoOrder ?hd_NoOrder ?ha_NoOrder ?hm_NoOrder ?N_NoOrder_base ?N_NoOrder_modulus ?g_NoArrangement ?xl_NoArrangement ?sa_NoArrangement ?ex_NoArrangement ?ty_NoArrangement ?kc_NoArrangement ?ga_NoArrangement ?gg_NoArrangement ?hd_NoArrangement ?ha_NoArrangement ?hm_NoArrangement ?N_NoArrangement_thing ?g_Full ?xl_Full ?sa_Full ?ex_Full ?ty_Full ?kc_Full ?ga_Full ?gg_Full ?hd_Full ?ha_Full ?hm_Full ?N_Full_limit ?g_Nothing ?xl_Nothing ?sa_Nothing ?ex_Nothing ?ty_Nothing ?kc_Nothing ?ga_Nothing ?gg_Nothing ?hd_Nothing ?ha_Nothing ?hm_Nothing ?x0_Nothing ?g_Away ?xl_Away ?sa_Away ?ex_Away ?ty_Away ?kc_Away ?ga_Away ?gg_Away ?hd_Away ?ha_Away ?hm_Away ?N_Away_pupil ?g_There ?xl_There ?sa_There ?ex_There ?ty_There ?kc_There ?ga_There ?gg_There ?hd_There ?ha_There ?hm_There ?N_There_pupil ?g_NoText ?xl_NoText ?sa_NoText ?ex_NoText ?ty_NoText ?kc_NoText ?ga_NoText ?gg_NoText ?hd_NoText ?ha_NoText ?hm_NoText ?x0_NoText ?g_NoCommand ?xl_NoCommand ?sa_NoCommand ?ex_NoCommand ?ty_NoCommand ?kc_NoCommand ?ga_NoCommand ?gg_NoCommand ?hd_NoCommand ?ha_NoCommand ?hm_NoCommand ?x0_NoCommand ?kt ?ka_PupilError ?ka_VE ?hgt ?htk ?a_Lbag ?l_Lbag ?c_Lbag ?k_Lbag ?a_Ltake ?l_Ltake ?c_Ltake ?k_Ltake ?a_Lone ?l_Lone ?c_Lone ?k_Lone ?a_Lvalue ?l_Lvalue ?c_Lvalue ?k_Lvalue ?a_Lerrors ?l_Lerrors ?c_Lerrors ?k_Lerrors ?a_Lflags ?l_Lflags ?c_Lflags ?k_Lflags ?a_Lfields ?l_Lfields ?c_Lfields ?k_Lfields ?a_law ?l_law ?c_law ?k_law ?e_Wrong_init ?i_Wrong_init ?l_Wrong_init ?c_Wrong_init ?k_Wrong_init ?e_NoCall_init ?i_NoCall_init ?l_NoCall_init ?c_NoCall_init ?k_NoCall_init ?e_NoPlace_init ?i_NoPlace_init ?l_NoPlace_init ?c_NoPlace_init ?k_NoPlace_init ?e_NoPupil_init ?i_NoPupil_init ?l_NoPupil_init ?c_NoPupil_init ?k_NoPupil_init ?e_NoWish_init ?i_NoWish_init ?l_NoWish_init ?c_NoWish_init ?k_NoWish_init ?e_NoStep_init ?i_NoStep_init ?l_NoStep_init ?c_NoStep_init ?k_NoStep_init ?e_NoClaim_init ?i_NoClaim_init ?l_NoClaim_init ?c_NoClaim_init ?k_NoClaim_init ?e_NoRow_init ?i_NoRow_init ?l_NoRow_init ?c_NoRow_init ?k_NoRow_init ?e_NoOrder_init ?i_NoOrder_init ?l_NoOrder_init ?c_NoOrder_init ?k_NoOrder_init ?e_NoArrangement_init ?i_NoArrangement_init ?l_NoArrangement_init ?c_NoArrangement_init ?k_NoArrangement_init ?e_Full_init ?i_Full_init ?l_Full_init ?c_Full_init ?k_Full_init ?e_Away_init ?i_Away_init ?l_Away_init ?c_Away_init ?k_Away_init ?e_There_init ?i_There_init ?l_There_init ?c_There_init ?k_There_init ?ti_Wrong ?ti_NoCall ?ti_NoPlace ?ti_NoPupil ?ti_NoWish ?ti_NoStep ?ti_NoClaim ?ti_NoRow ?ti_NoOrder ?ti_NoArrangement ?ti_Full ?ti_Away ?ti_There ?z_len ?z_abs ?z_int ?z_list ?z_range ?z_isinstance ?z_dict ?z_enumerate ?z_ValueError
    (case g_PupilError => k_is)
    (case xl_PupilError => k_is)
    (case sa_PupilError => k_is)
    (case ex_PupilError => k_is)
    (case ty_PupilError => k_is)
    (case kc_PupilError => k_is)
    (case ga_PupilError => k_is)
    (case gg_PupilError => k_is)
    (case hd_PupilError => k_is)
    (case ha_PupilError => k_is)
    (case hm_PupilError => k_is)
    (case x0_PupilError => k_exc)
    (case g_Wrong => k_is)
    (case xl_Wrong => k_is)
    (case sa_Wrong => k_is)
    (case ex_Wrong => k_is)
    (case ty_Wrong => k_is)
    (case kc_Wrong => k_is)
    (case ga_Wrong => k_is)
    (case gg_Wrong => k_is)
    (case hd_Wrong => k_is)
    (case ha_Wrong => k_is)
    (case hm_Wrong => k_is)
    (case N_Wrong_place => k_is)
    (case g_NoCall => k_is)
    (case xl_NoCall => k_is)
    (case sa_NoCall => k_is)
    (case ex_NoCall => k_is)
    (case ty_NoCall => k_is)
    (case kc_NoCall => k_is)
    (case ga_NoCall => k_is)
    (case gg_NoCall => k_is)
    (case hd_NoCall => k_is)
    (case ha_NoCall => k_is)
    (case hm_NoCall => k_is)
    (case N_NoCall_thing => k_is)
    (case g_Unlike => k_is)
    (case xl_Unlike => k_is)
    (case sa_Unlike => k_is)
    (case ex_Unlike => k_is)
    (case ty_Unlike => k_is)
    (case kc_Unlike => k_is)
    (case ga_Unlike => k_is)
    (case gg_Unlike => k_is)
    (case hd_Unlike => k_is)
    (case ha_Unlike => k_is)
    (case hm_Unlike => k_is)
    (case x0_Unlike => k_exc)
    (case g_NoPlace => k_is)
    (case xl_NoPlace => k_is)
    (case sa_NoPlace => k_is)
    (case ex_NoPlace => k_is)
    (case ty_NoPlace => k_is)
    (case kc_NoPlace => k_is)
    (case ga_NoPlace => k_is)
    (case gg_NoPlace => k_is)
    (case hd_NoPlace => k_is)
    (case ha_NoPlace => k_is)
    (case hm_NoPlace => k_is)
    (case N_NoPlace_place => k_is)
    (case g_NoPupil => k_is)
    (case xl_NoPupil => k_is)
    (case sa_NoPupil => k_is)
    (case ex_NoPupil => k_is)
    (case ty_NoPupil => k_is)
    (case kc_NoPupil => k_is)
    (case ga_NoPupil => k_is)
    (case gg_NoPupil => k_is)
    (case hd_NoPupil => k_is)
    (case ha_NoPupil => k_is)
    (case hm_NoPupil => k_is)
    (case N_NoPupil_pupil => k_is)
    (case g_Open => k_is)
    (case xl_Open => k_is)
    (case sa_Open => k_is)
    (case ex_Open => k_is)
    (case ty_Open => k_is)
    (case kc_Open => k_is)
    (case ga_Open => k_is)
    (case gg_Open => k_is)
    (case hd_Open => k_is)
    (case ha_Open => k_is)
    (case hm_Open => k_is)
    (case x0_Open => k_exc)
    (case g_NoWish => k_is)
    (case xl_NoWish => k_is)
    (case sa_NoWish => k_is)
    (case ex_NoWish => k_is)
    (case ty_NoWish => k_is)
    (case kc_NoWish => k_is)
    (case ga_NoWish => k_is)
    (case gg_NoWish => k_is)
    (case hd_NoWish => k_is)
    (case ha_NoWish => k_is)
    (case hm_NoWish => k_is)
    (case N_NoWish_wish => k_is)
    (case g_NoStep => k_is)
    (case xl_NoStep => k_is)
    (case sa_NoStep => k_is)
    (case ex_NoStep => k_is)
    (case ty_NoStep => k_is)
    (case kc_NoStep => k_is)
    (case ga_NoStep => k_is)
    (case gg_NoStep => k_is)
    (case hd_NoStep => k_is)
    (case ha_NoStep => k_is)
    (case hm_NoStep => k_is)
    (case N_NoStep_step => k_is)
    (case g_NoClaim => k_is)
    (case xl_NoClaim => k_is)
    (case sa_NoClaim => k_is)
    (case ex_NoClaim => k_is)
    (case ty_NoClaim => k_is)
    (case kc_NoClaim => k_is)
    (case ga_NoClaim => k_is)
    (case gg_NoClaim => k_is)
    (case hd_NoClaim => k_is)
    (case ha_NoClaim => k_is)
    (case hm_NoClaim => k_is)
    (case N_NoClaim_claim => k_is)
    (case g_NoRow => k_is)
    (case xl_NoRow => k_is)
    (case sa_NoRow => k_is)
    (case ex_NoRow => k_is)
    (case ty_NoRow => k_is)
    (case kc_NoRow => k_is)
    (case ga_NoRow => k_is)
    (case gg_NoRow => k_is)
    (case hd_NoRow => k_is)
    (case ha_NoRow => k_is)
    (case hm_NoRow => k_is)
    (case N_NoRow_row => k_is)
    (case g_NoOrder => k_is)
    (case xl_NoOrder => k_is)
    (case sa_NoOrder => k_is)
    (case ex_NoOrder => k_is)
    (case ty_NoOrder => k_is)
    (case kc_NoOrder => k_is)
    (case ga_NoOrder => k_is)
    (case gg_NoOrder => k_is)
    (case hd_NoOrder => k_is)
    (case ha_NoOrder => k_is)
    (case hm_NoOrder => k_is)
    (case N_NoOrder_base => k_is)
    (case N_NoOrder_modulus => k_is)
    (case g_NoArrangement => k_is)
    (case xl_NoArrangement => k_is)
    (case sa_NoArrangement => k_is)
    (case ex_NoArrangement => k_is)
    (case ty_NoArrangement => k_is)
    (case kc_NoArrangement => k_is)
    (case ga_NoArrangement => k_is)
    (case gg_NoArrangement => k_is)
    (case hd_NoArrangement => k_is)
    (case ha_NoArrangement => k_is)
    (case hm_NoArrangement => k_is)
    (case N_NoArrangement_thing => k_is)
    (case g_Full => k_is)
    (case xl_Full => k_is)
    (case sa_Full => k_is)
    (case ex_Full => k_is)
    (case ty_Full => k_is)
    (case kc_Full => k_is)
    (case ga_Full => k_is)
    (case gg_Full => k_is)
    (case hd_Full => k_is)
    (case ha_Full => k_is)
    (case hm_Full => k_is)
    (case N_Full_limit => k_is)
    (case g_Nothing => k_is)
    (case xl_Nothing => k_is)
    (case sa_Nothing => k_is)
    (case ex_Nothing => k_is)
    (case ty_Nothing => k_is)
    (case kc_Nothing => k_is)
    (case ga_Nothing => k_is)
    (case gg_Nothing => k_is)
    (case hd_Nothing => k_is)
    (case ha_Nothing => k_is)
    (case hm_Nothing => k_is)
    (case x0_Nothing => k_exc)
    (case g_Away => k_is)
    (case xl_Away => k_is)
    (case sa_Away => k_is)
    (case ex_Away => k_is)
    (case ty_Away => k_is)
    (case kc_Away => k_is)
    (case ga_Away => k_is)
    (case gg_Away => k_is)
    (case hd_Away => k_is)
    (case ha_Away => k_is)
    (case hm_Away => k_is)
    (case N_Away_pupil => k_is)
    (case g_There => k_is)
    (case xl_There => k_is)
    (case sa_There => k_is)
    (case ex_There => k_is)
    (case ty_There => k_is)
    (case kc_There => k_is)
    (case ga_There => k_is)
    (case gg_There => k_is)
    (case hd_There => k_is)
    (case ha_There => k_is)
    (case hm_There => k_is)
    (case N_There_pupil => k_is)
    (case g_NoText => k_is)
    (case xl_NoText => k_is)
    (case sa_NoText => k_is)
    (case ex_NoText => k_is)
    (case ty_NoText => k_is)
    (case kc_NoText => k_is)
    (case ga_NoText => k_is)
    (case gg_NoText => k_is)
    (case hd_NoText => k_is)
    (case ha_NoText => k_is)
    (case hm_NoText => k_is)
    (case x0_NoText => k_exc)
    (case g_NoCommand => k_is)
    (case xl_NoCommand => k_is)
    (case sa_NoCommand => k_is)
    (case ex_NoCommand => k_is)
    (case ty_NoCommand => k_is)
    (case kc_NoCommand => k_is)
    (case ga_NoCommand => k_is)
    (case gg_NoCommand => k_is)
    (case hd_NoCommand => k_is)
    (case ha_NoCommand => k_is)
    (case hm_NoCommand => k_is)
    (case x0_NoCommand => k_exc)
    (case kt => first | k_is | kernel_rfl)
    (case ka_PupilError => first | k_is | kernel_rfl)
    (case ka_VE => first | k_is | kernel_rfl)
    (case hgt => k_is)
    (case htk => k_is)
    (case a_Lbag => k_is)
    (case l_Lbag => k_is)
    (case c_Lbag => k_is)
    (case k_Lbag => k_is)
    (case a_Ltake => k_is)
    (case l_Ltake => k_is)
    (case c_Ltake => k_is)
    (case k_Ltake => k_is)
    (case a_Lone => k_is)
    (case l_Lone => k_is)
    (case c_Lone => k_is)
    (case k_Lone => k_is)
    (case a_Lvalue => k_is)
    (case l_Lvalue => k_is)
    (case c_Lvalue => k_is)
    (case k_Lvalue => k_is)
    (case a_Lerrors => k_is)
    (case l_Lerrors => k_is)
    (case c_Lerrors => k_is)
    (case k_Lerrors => k_is)
    (case a_Lflags => k_is)
    (case l_Lflags => k_is)
    (case c_Lflags => k_is)
    (case k_Lflags => k_is)
    (case a_Lfields => k_is)
    (case l_Lfields => k_is)
    (case c_Lfields => k_is)
    (case k_Lfields => k_is)
    (case a_law => k_is)
    (case l_law => k_is)
    (case c_law => k_is)
    (case k_law => k_is)
    (case e_Wrong_init => k_is)
    (case i_Wrong_init => k_is)
    (case l_Wrong_init => k_is)
    (case c_Wrong_init => k_is)
    (case k_Wrong_init => k_is)
    (case e_NoCall_init => k_is)
    (case i_NoCall_init => k_is)
    (case l_NoCall_init => k_is)
    (case c_NoCall_init => k_is)
    (case k_NoCall_init => k_is)
    (case e_NoPlace_init => k_is)
    (case i_NoPlace_init => k_is)
    (case l_NoPlace_init => k_is)
    (case c_NoPlace_init => k_is)
    (case k_NoPlace_init => k_is)
    (case e_NoPupil_init => k_is)
    (case i_NoPupil_init => k_is)
    (case l_NoPupil_init => k_is)
    (case c_NoPupil_init => k_is)
    (case k_NoPupil_init => k_is)
    (case e_NoWish_init => k_is)
    (case i_NoWish_init => k_is)
    (case l_NoWish_init => k_is)
    (case c_NoWish_init => k_is)
    (case k_NoWish_init => k_is)
    (case e_NoStep_init => k_is)
    (case i_NoStep_init => k_is)
    (case l_NoStep_init => k_is)
    (case c_NoStep_init => k_is)
    (case k_NoStep_init => k_is)
    (case e_NoClaim_init => k_is)
    (case i_NoClaim_init => k_is)
    (case l_NoClaim_init => k_is)
    (case c_NoClaim_init => k_is)
    (case k_NoClaim_init => k_is)
    (case e_NoRow_init => k_is)
    (case i_NoRow_init => k_is)
    (case l_NoRow_init => k_is)
    (case c_NoRow_init => k_is)
    (case k_NoRow_init => k_is)
    (case e_NoOrder_init => k_is)
    (case i_NoOrder_init => k_is)
    (case l_NoOrder_init => k_is)
    (case c_NoOrder_init => k_is)
    (case k_NoOrder_init => k_is)
    (case e_NoArrangement_init => k_is)
    (case i_NoArrangement_init => k_is)
    (case l_NoArrangement_init => k_is)
    (case c_NoArrangement_init => k_is)
    (case k_NoArrangement_init => k_is)
    (case e_Full_init => k_is)
    (case i_Full_init => k_is)
    (case l_Full_init => k_is)
    (case c_Full_init => k_is)
    (case k_Full_init => k_is)
    (case e_Away_init => k_is)
    (case i_Away_init => k_is)
    (case l_Away_init => k_is)
    (case c_Away_init => k_is)
    (case k_Away_init => k_is)
    (case e_There_init => k_is)
    (case i_There_init => k_is)
    (case l_There_init => k_is)
    (case c_There_init => k_is)
    (case k_There_init => k_is)
    (case ti_Wrong => k_is)
    (case ti_NoCall => k_is)
    (case ti_NoPlace => k_is)
    (case ti_NoPupil => k_is)
    (case ti_NoWish => k_is)
    (case ti_NoStep => k_is)
    (case ti_NoClaim => k_is)
    (case ti_NoRow => k_is)
    (case ti_NoOrder => k_is)
    (case ti_NoArrangement => k_is)
    (case ti_Full => k_is)
    (case ti_Away => k_is)
    (case ti_There => k_is)
    (case z_len => k_is)
    (case z_abs => k_is)
    (case z_int => k_is)
    (case z_list => k_is)
    (case z_range => k_is)
    (case z_isinstance => k_is)
    (case z_dict => k_is)
    (case z_enumerate => k_is)
    (case z_ValueError => k_is)


