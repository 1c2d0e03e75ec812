import PyProof.Rows.All
import Wide.All
import OpenK.AllK
import Wide.FinOn
import HandS.ForMost
import HandS.Zip
import KE.GoesZip
import KE.GoesMore
import KE.GoesEnum
import HandS.Conv
import HandS.Wide
import HandS.More
import HandS.SortRule
import HandS.IterVal
import PyProof.Rows.SetFrom
import HandS.IsInst
import HandS.ExcCtx
import HandS.RaiseMore
import PyProof.ReprRoads
import PyProof.ReprBulk
import PyProof.Rows.StrMul
import KE.KxIndex
import PyProof.FitsInt
import PyProof.Rows.ReprShort
import HandS.TupAny
import HandS.Strs
import HandS.Sort
import HandS.HotCalls
import HandS.ExcInit
import HandS.ExcField
import KE.KExcIs
import KE.KTryMore
import HandS.Style
import PyProof.P3Eq
import HandS.ExcIs
import PyProof.Rows.StrJoinRep
import HandS.ReCall
import HandS.OwnEq
import HandS.NoneIn
import PyProof.ListNew
import PyProof.WalksMore
import HandS.Property
import HandS.TupMul
import HandS.Rev
import HandS.ExcOwn
import HandS.Lambda
import HandS.EndTab
import KE.KNestM
import PyProof.EqKinds
import KE.KEqDict
import PyProof.Rows.ReprOcc
import PyProof.Rows.ReprWords
import HandS.DictTup
import PySem.Challenge.RW_pupilpairs_k85_returns_of_halved_lines
set_option Elab.async false
set_option maxRecDepth 100000
set_option maxHeartbeats 2000000
namespace Zst
open PySem PySem.Spec PyProof.Rows L2

/-- what a zip of the text x and the tuple at b yields -/
def ItzS (K : PySem.W.Frag) (x : Str) (b : Addr) : It :=
  ⟨fun i H => ∃ (ys : List V) (c : Nat) (y : V), SqT K H b ys ∧ x.cps[i]? = some c ∧ ys[i]? = some y,
    fun i H v H' => ∃ (T : Addr) (c : Nat) (y : V), v = .ref T ∧ H T = none ∧ H' = upd H T (.tup [.str ⟨#[c]⟩, y]) ∧ x.cps[i]? = some c ∧ ∀ ys, SqT K H b ys → ys[i]? = some y,
    fun i H => ∃ ys : List V, SqT K H b ys ∧ ((x.cps.size = i ∧ i ≤ ys.length) ∨ (ys.length = i ∧ i ≤ x.cps.size))⟩

def tnS (z TI TO i1 i2 b : Addr) (x : Str) (t : Tok) (i : Nat) (h : Heap) : Prop :=
  IsZip h z TI TO .none ∧ IsTupOf2 h TI (.ref i1) (.ref i2) ∧ (∃ u v, IsTupOf2 h TO u v) ∧ h.IsStrIter i1 (strIterType x) x t i ∧ h.IsTupleIter i2 b i

theorem turnS {P : Program} {w : World} {K : PySem.W.Frag} {elts : List Expr} {kk : Nat} {tpos : Pos} {z TI TO i1 i2 b : Addr} {x : Str} {t : Tok} (D : ZipSep2 z TI TO i1 i2 [i1] [i2, b]) (hbi : b ≠ i2) :
    Turn P w K (.Tuple elts kk tpos) (ItzS K x b) [z, TI, TO, i1, i2] z (tnS z TI TO i1 i2 b x t) where
  mem := by simp
  obj := by
    rintro i h ⟨g1, g2, ⟨u, v, g3⟩, ⟨o4, g4, _, d4⟩, ⟨o5, g5, _, d5⟩⟩ c hc
    have hc' : c = z ∨ c = TI ∨ c = TO ∨ c = i1 ∨ c = i2 := by simpa using hc
    rcases hc' with rfl | rfl | rfl | rfl | rfl
    · exact ⟨_, g1, fun _ q => nomatch q⟩
    · exact ⟨_, g2, fun _ q => nomatch q⟩
    · exact ⟨_, g3, fun _ q => nomatch q⟩
    · exact ⟨_, g4, fun _ q => by rw [d4] at q; cases q⟩
    · exact ⟨_, g5, fun _ q => by rw [d5] at q; cases q⟩
  keep := by
    rintro i h h' ⟨g1, g2, ⟨u, v, g3⟩, ⟨o4, g4, r4⟩, g5⟩ k
    exact ⟨k z (by simp) _ g1, k TI (by simp) _ g2, ⟨u, v, k TO (by simp) _ g3⟩, ⟨o4, k i1 (by simp) _ g4, r4⟩, g5.at fun o q => k i2 (by simp) o q⟩
  item := by
    intro X hP hw hK hc i pins s σ H E I hf st hg
    subst hP hw hK
    obtain ⟨g1, g2, ⟨u, v, g3⟩, g4, g5⟩ := st
    obtain ⟨ys, c, y, hq, hcx, hy⟩ := hg
    obtain ⟨its, rv, p, _⟩ := I.tuple hq
    have hd : X.A.handled = none := I.ok.hd hc
    have hi1 : i < x.cps.size := (Array.getElem?_eq_some_iff.mp hcx).1
    have hi2 : i < its.toArray.size := by
      have q1 := (List.getElem?_eq_some_iff.mp hy).1
      have q2 := rv.length
      simp
      omega
    have D1 := Draws.text (prog := X.prog) (w := X.w) (A := X.A.in1) hd i1 x t
    have D2 := Draws.tuple (prog := X.prog) (w := X.w) (A := X.A.in1) hd i2 b hbi its.toArray
    refine wpAny_pyNext_zipD2_item D D1 D2 g1 g2 g3 g4 ⟨g5, p⟩ hi1 hi2 fun x1 x2 h' tk e1 e2 b1 b2 d1 d2 b5 b6 b7 => ?_
    have zlt : z < s.heap.objs.size := Heap.lt_size g1
    refine ⟨_, rfl, wpAny_letOwnedTupleGo_zip (s := { s with heap := h', toks := tk }) b1 fun h'' c1 sb => ?_⟩
    obtain ⟨cc, tt, hcc, rfl⟩ := e1
    have ecc : cc = c := Option.some.inj (hcc.symm.trans hcx)
    subst ecc
    obtain ⟨u2, hu2, ru2⟩ := rv.get hy
    have eu : x2 = u2 := by
      have q : its.toArray[i]? = some x2 := e2
      rw [List.getElem?_toArray, hu2] at q
      exact (Option.some.inj q).symm
    subst eu
    have hT : h''.get? s.heap.objs.size = some { cls := .type "tuple", data := .seq #[Value.str ⟨#[cc]⟩ tt, x2] } := (sb.2 _ (Nat.ne_of_gt zlt)).trans b5
    have new : ObjOk X.prog X.w (upd H s.heap.objs.size (.tup [.str ⟨#[cc]⟩, y])) h'' s.heap.objs.size (.tup [.str ⟨#[cc]⟩, y]) :=
      ⟨by show 2 ≤ sizeLine; decide, [Value.str ⟨#[cc]⟩ tt, x2], .cons ⟨tt, rfl⟩ (.cons ru2 .nil), ⟨_, hT, rfl, _, rfl⟩⟩
    have keepAll : ∀ a o, a ≠ z → a ≠ TO → a ≠ i1 → a ≠ i2 → s.heap.get? a = some o → h''.get? a = some o := fun a o n1 n2 n3 n4 q => (sb.2 a n1).trans (b7 a o n1 n2 n3 n4 q)
    have I1 : Inv X pins σ (upd H s.heap.objs.size (.tup [.str ⟨#[cc]⟩, y])) { s with heap := h'', toks := tk } :=
      I.turnedNew (t' := tk) (ch := [z, TI, TO, i1, i2]) (fun a o ha q => keepAll a o (fun q' => ha (by simp [q'])) (fun q' => ha (by simp [q'])) (fun q' => ha (by simp [q'])) (fun q' => ha (by simp [q'])) q) hf (Nat.le_refl _) new
    have d2' := d2.1
    refine ⟨.ref s.heap.objs.size, _, I1, rfl, ⟨_, cc, y, rfl, I.hok.fresh (Nat.le_refl _), rfl, hcx, fun l hl => by rw [I.tuple_inj hl hq]; exact hy⟩, ⟨c1, ?_, ⟨_, _, (sb.2 _ D.TOz).trans b2⟩, ?_, ?_⟩, fun a ha => ?_⟩
    · exact keepAll TI _ D.TIz D.TITO D.TIi1 D.TIi2 g2
    · obtain ⟨o4, q4, r4⟩ := d1
      exact ⟨o4, (sb.2 _ D.zi1.symm).trans q4, r4⟩
    · exact d2'.at fun o q => (sb.2 _ D.zi2.symm).trans q
    · have alt : a < s.heap.objs.size := by
        have ha' : a = z ∨ a = TI ∨ a = TO ∨ a = i1 ∨ a = i2 := by simpa using ha
        rcases ha' with rfl | rfl | rfl | rfl | rfl
        · exact zlt
        · exact Heap.lt_size g2
        · exact Heap.lt_size g3
        · obtain ⟨_, q, _⟩ := g4; exact Heap.lt_size q
        · obtain ⟨_, q, _⟩ := g5; exact Heap.lt_size q
      rw [upd_ne (Nat.ne_of_lt alt)]
      exact (hf a ha).1
  done := by
    intro X hP hw hK hc i pins s σ H E I hf st hg
    subst hP hw hK
    obtain ⟨g1, g2, ⟨u, v, g3⟩, g4, g5⟩ := st
    obtain ⟨ys, hq, hend⟩ := hg
    obtain ⟨its, rv, p, _⟩ := I.tuple hq
    have hd : X.A.handled = none := I.ok.hd hc
    have l2 := rv.length
    have D1 := Draws.text (prog := X.prog) (w := X.w) (A := X.A.in1) hd i1 x t
    have D2 := Draws.tuple (prog := X.prog) (w := X.w) (A := X.A.in1) hd i2 b hbi its.toArray
    have sz : its.toArray.size = ys.length := by simp [l2]
    refine wpAny_pyNext_zipD2_end D D1 D2 g1 g2 g3 g4 ⟨g5, p⟩ (by omega) (by omega) (by omega) fun h' tk hk => ⟨rfl, ?_⟩
    exact I.turnedL (t' := tk) (ch := [z, TI, TO, i1, i2]) (fun a o ha q => hk a o (fun q' => ha (by simp [q'])) (fun q' => ha (by simp [q'])) (fun q' => ha (by simp [q'])) (fun q' => ha (by simp [q'])) q) hf
  self := fun A i s Q E st h => wpAny_pyIter_zip st.1 h

def iZipS (K : PySem.W.Frag) (ta : TA) : TI := fun σ H R => ta σ H fun vs H1 => ∃ (x : Str) (b : Addr) (ys : List V), vs = [.str x, .ref b] ∧ SqT K H1 b ys ∧ R (ItzS K x b) H1

theorem pi_zipS {X : Cx} {e e2 : Expr} {ta : TA} {p pos tpos : Pos} {elts : List Expr} {kk : Nat} (hg : Gl X "zip") (hm : X.mg "zip" = none) (ha : PA X [e, e2] ta)
    (hs : starEach [e, e2] X.env = (false, eval e X.env) :: starEach [e2] X.env := by rfl) (hpl : (backTo pos (starEach [e2] X.env)).any (·.1) = false := by rfl) :
    PI X (.Tuple elts kk tpos) (.Call (.Name "zip" p) [e, e2] [] pos) (iZipS X.K ta) := by
  constructor
  intro pins s σ H R I h
  refine Call_ (ld_blt I hg hm PyProof.Rows.boot_zip (PyProof.Rows.callWith_type1 (thn (ha.run pos pins s σ H _ I h) ?_) hs hpl))
  rintro us s1 ⟨vs, H1, I1, r1, x, b, ys, rfl, hq, q⟩
  match us, r1 with
  | _, .cons (b := u1) ⟨t, e1⟩ (.cons (b := u2) e2 .nil) =>
    subst e1
    have e2' : u2 = Value.ref b := e2
    subst e2'
    obtain ⟨its, rv, p1, _⟩ := I1.tuple hq
    have p1' : s1.heap.IsTuple b its.toArray := p1
    have blt : b < s1.heap.objs.size := by
      obtain ⟨_, q1, _⟩ := id p1
      exact Heap.lt_size q1
    refine zip_begins2 (begins_text x t) (begins_tuple b its.toArray) trivial p1' fun h' c1 c2 c3 c4 c5 hsz hk => wpAny_pyIter_zip c1 ?_
    have I2 : Inv X pins σ H1 { s1 with heap := h' } := I1.kept (t' := s1.toks) hk
    have D : ZipSep2 (s1.heap.objs.size + 4) (s1.heap.objs.size + 2) (s1.heap.objs.size + 3) s1.heap.objs.size (s1.heap.objs.size + 1) [s1.heap.objs.size] [s1.heap.objs.size + 1, b] :=
      zip_sep2 (fp1 := []) (fp2 := [b]) (fun c hc => nomatch hc) (fun c hc => by rw [List.mem_singleton.mp hc]; exact blt)
    refine ⟨s1.heap.objs.size + 4, [s1.heap.objs.size + 4, s1.heap.objs.size + 2, s1.heap.objs.size + 3, s1.heap.objs.size, s1.heap.objs.size + 1], _, _, H1, rfl, I2, turnS (x := x) (t := t) D (Nat.ne_of_lt (Nat.lt_succ_of_lt blt)), ⟨c1, c2, ⟨_, _, c3⟩, ⟨_, c4, rfl, rfl⟩, ⟨_, c5, rfl, rfl⟩⟩, fun c hc => ?_, q⟩
    have hc' : c = s1.heap.objs.size + 4 ∨ c = s1.heap.objs.size + 2 ∨ c = s1.heap.objs.size + 3 ∨ c = s1.heap.objs.size ∨ c = s1.heap.objs.size + 1 := by simpa using hc
    have hle : s1.heap.objs.size ≤ c := by
      rcases hc' with e | e | e | e | e
      all_goals first | exact e ▸ Nat.le_add_right _ _ | exact e ▸ Nat.le_refl _
    exact I1.fpOk hle (I1.hok.fresh hle)
end Zst

set_option Elab.async false
set_option maxRecDepth 100000
set_option maxHeartbeats 2000000
set_option linter.all false
/-! symbolic execution over the hand layer: what stays (Ex), and one rule a reading -/
namespace Sx
open PySem PySem.Spec PyProof.Rows L2

/-- not the four cells of a bag -/
def NB (o : HO) : Prop := ∀ x y z c, o ≠ .lst [.int x, .int y, .int z, .ref c]
theorem NB.tup {xs : List V} : NB (.tup xs) := fun _ _ _ _ h => nomatch h
theorem NB.len {xs : List V} (h : xs.length ≠ 4) : NB (.lst xs) := fun _ _ _ _ e => h (by injection e with e; rw [e]; rfl)
theorem NB.at0 {v : V} {xs : List V} (h : ∀ i, v ≠ .int i) : NB (.lst (v :: xs)) := fun _ _ _ _ e => by
  injection e with e
  exact h _ (List.cons.inj e).1
theorem NB.at3 {a b c v : V} {xs : List V} (h : ∀ i, v ≠ .ref i) : NB (.lst (a :: b :: c :: v :: xs)) := fun _ _ _ _ e => by
  injection e with e
  exact h _ (List.cons.inj (List.cons.inj (List.cons.inj (List.cons.inj e).2).2).2).1
theorem NB.ints {ns : List Int} : NB (.lst (ns.map V.int)) := fun x y z c e => by
  injection e with e
  have h := congrArg (fun l : List V => l[3]?) e
  simp only [List.getElem?_map] at h
  cases q : ns[3]? with
  | none => rw [q] at h; cases h
  | some n => rw [q] at h; cases h
theorem NB.refs {l : List V} (h : ∀ v ∈ l, ∃ a, v = .ref a) : NB (.lst l) := fun x y z c e => by
  injection e with e
  obtain ⟨a, q⟩ := h (.int x) (by rw [e]; simp)
  cases q
theorem NB.frz {o : Obj} {u : HO} : NB (.frz o u) := fun _ _ _ _ h => nomatch h
theorem NB.ins {C dx : Addr} {fs : List (Str × V)} : NB (.ins C dx fs) := fun _ _ _ _ h => nomatch h
theorem NB.own {x : Addr} : NB (.own x) := fun _ _ _ _ h => nomatch h

structure BagC (b c : Addr) (H : Hp) : Prop where
  ex : ∃ (x y z : Int) (ns : List Int), H b = some (.lst [.int x, .int y, .int z, .ref c]) ∧ H c = some (.lst (ns.map V.int)) ∧ 0 ≤ x ∧ 0 ≤ y ∧ y < 2147483647 ∧ 0 ≤ z
def Bag (b : Addr) (H : Hp) : Prop := ∃ c, BagC b c H
/-- all but bags stands as it stood, bags are bags -/
structure Ex (H H' : Hp) : Prop where
  kp : ∀ a o, H a = some o → NB o → H' a = some o
  bg : ∀ b c, BagC b c H → BagC b c H'
section
variable {H H' H1 H2 : Hp} {p a b c l : Addr} {o u : HO}
theorem Ex.refl (H : Hp) : Ex H H := ⟨fun _ _ h _ => h, fun _ _ h => h⟩
theorem Ex.trans (e : Ex H H1) (f : Ex H1 H2) : Ex H H2 := ⟨fun a o h n => f.kp a o (e.kp a o h n) n, fun b c h => f.bg b c (e.bg b c h)⟩
theorem Ex.bag (e : Ex H H1) (h : Bag b H) : Bag b H1 := let ⟨c, q⟩ := h; ⟨c, e.bg b c q⟩
theorem Ex.new (h : H p = none) : Ex H (upd H p o) := by
  have all : ∀ a o', H a = some o' → upd H p o a = some o' := fun a o' e => by rw [upd_ne (ne_of_none e h)]; exact e
  exact ⟨fun a o' e _ => all a o' e, fun b c ⟨x, y, z, ns, e1, e2, r⟩ => ⟨x, y, z, ns, all _ _ e1, all _ _ e2, r⟩⟩
theorem Ex.mut (e : Ex H H1) (h : H l = none) : Ex H (upd H1 l o) := by
  refine ⟨fun a o' q n => ?_, fun b c q => ?_⟩
  · rw [upd_ne (ne_of_none q h)]
    exact e.kp a o' q n
  · obtain ⟨x0, y0, z0, ns0, k1, k2, _⟩ := id q
    obtain ⟨x, y, z, ns, e1, e2, r⟩ := e.bg b c q
    exact ⟨x, y, z, ns, by rw [upd_ne (ne_of_none k1 h)]; exact e1, by rw [upd_ne (ne_of_none k2 h)]; exact e2, r⟩
theorem Ex.fresh (e : Ex H H1) (h : H1 a = none) (n : NB o) : H a ≠ some o := fun q => by
  rw [e.kp a o q n] at h
  cases h
theorem bag_some (h : Bag b H) : ∃ o, H b = some o := let ⟨_, x, y, z, ns, e, _⟩ := h; ⟨_, e⟩
theorem bag_ne (h : Bag b H) (hp : H p = none) : b ≠ p := let ⟨_, e⟩ := bag_some h; ne_of_none e hp

/-! ### one rule a reading -/
variable {K : PySem.W.Frag} {σ : L2.St} {Q : VK} {v w : V} {D : Ends} {t u : TT} {ta tb te : TE} {A B : Prop}
theorem x_var {i : Nat} (hx : σ[i]? = some (some v)) (k : Q v H) : tVar i σ H Q := ⟨v, hx, k⟩
theorem x_c (k : Q v H) : tC v σ H Q := k
theorem x_op {r : R2} (k : ta σ H fun x H1 => tb σ H1 fun y H2 => r x y H2 Q) : tOp r ta tb σ H Q := k
theorem x_un {r : V → Hp → VK → Prop} (k : ta σ H fun x H1 => r x H1 Q) : tUn r ta σ H Q := k
theorem x_I0 {g : Int → Int → V} {i j : Int} (k : Q (g i j) H) : rI0 g (.int i) (.int j) H Q := ⟨i, j, rfl, rfl, k⟩
theorem x_I {C : Int → Int → Prop} {g : Int → Int → V} {i j : Int} (c : C i j) (k : Q (g i j) H) : rI C g (.int i) (.int j) H Q := ⟨i, j, rfl, rfl, c, k⟩
theorem x_U {g : Int → V} {i : Int} (k : Q (g i) H) : rU g (.int i) H Q := ⟨i, rfl, k⟩
theorem x_Eq (h : scal v w = true) (k : Q (.bl (decide (v = w))) H) : rEq v w H Q := ⟨h, k⟩
theorem x_Ne (h : scal v w = true) (k : Q (.bl (!decide (v = w))) H) : rNe v w H Q := ⟨h, k⟩
theorem x_EqI {i j : Int} (k : Q (.bl (decide (i = j))) H) : rEq (.int i) (.int j) H Q := ⟨rfl, by
  rw [show decide ((V.int i) = .int j) = decide (i = j) from decide_eq_decide.mpr ⟨fun h => V.int.inj h, fun h => by rw [h]⟩]; exact k⟩
theorem x_NeI {i j : Int} (k : Q (.bl (!decide (i = j))) H) : rNe (.int i) (.int j) H Q := ⟨rfl, by
  rw [show decide ((V.int i) = .int j) = decide (i = j) from decide_eq_decide.mpr ⟨fun h => V.int.inj h, fun h => by rw [h]⟩]; exact k⟩
theorem x_EqS {i j : Str} (k : Q (.bl (decide (i = j))) H) : rEq (.str i) (.str j) H Q := ⟨rfl, by
  rw [show decide ((V.str i) = .str j) = decide (i = j) from decide_eq_decide.mpr ⟨fun h => V.str.inj h, fun h => by rw [h]⟩]; exact k⟩
theorem x_NeS {i j : Str} (k : Q (.bl (!decide (i = j))) H) : rNe (.str i) (.str j) H Q := ⟨rfl, by
  rw [show decide ((V.str i) = .str j) = decide (i = j) from decide_eq_decide.mpr ⟨fun h => V.str.inj h, fun h => by rw [h]⟩]; exact k⟩
theorem x_EqD {d e : PyData} (h1 : Dp K H v d) (h2 : Dp K H w e) (s1 : SeqAt.shaped d = true) (s2 : SeqAt.shaped e = true) (k : Q (.bl (PyData.eqv d e)) H) : rEqD K v w H Q := ⟨d, e, h1, h2, s1, s2, k⟩
theorem x_NeD {d e : PyData} (h1 : Dp K H v d) (h2 : Dp K H w e) (s1 : SeqAt.shaped d = true) (s2 : SeqAt.shaped e = true) (k : Q (.bl (!PyData.eqv d e)) H) : rNeD K v w H Q := ⟨d, e, h1, h2, s1, s2, k⟩
theorem x_chain {r r' : R2} {tc : TE} (k : ta σ H fun x H1 => tb σ H1 fun y H2 => r x y H2 fun z H3 => ∃ k, z = .bl k ∧ (if k = true then tc σ H3 fun z' H4 => r' y z' H4 Q else Q (.bl false) H3)) : tChain r r' ta tb tc σ H Q := k
-- lists, tuples
theorem x_ixL {xs : List V} {i : Int} (h : H p = some (.lst xs)) (hi : atI xs i = some v) (k : Q v H) : rIxL K (.ref p) (.int i) H Q := ⟨p, xs, i, v, rfl, rfl, SqL.of h, hi, k⟩
theorem x_ixT {xs : List V} {i : Int} (h : H p = some (.tup xs)) (hi : atI xs i = some v) (k : Q v H) : rIxT K (.ref p) (.int i) H Q := ⟨p, xs, i, v, rfl, rfl, SqT.of h, hi, k⟩
/-- a new object -/
def LenNew (xs : List V) (o : HO) (H : Hp) (Q : VK) : Prop := xs.length ≤ sizeLine ∧ ∀ p, H p = none → Q (.ref p) (upd H p o)
def JustNew (o : HO) (H : Hp) (Q : VK) : Prop := ∀ p, H p = none → Q (.ref p) (upd H p o)
theorem x_lenNew {xs : List V} (hl : xs.length ≤ sizeLine) (k : ∀ p H1, Ex H H1 → H p = none → H1 p = some o → Q (.ref p) H1) : LenNew xs o H Q := ⟨hl, fun p hp => k p _ (Ex.new hp) hp upd_same⟩
theorem x_new (k : ∀ p H1, Ex H H1 → H p = none → H1 p = some o → Q (.ref p) H1) : JustNew o H Q := fun p hp => k p _ (Ex.new hp) hp upd_same
theorem x_tup {a : TA} (k : a σ H fun xs H1 => LenNew xs (.tup xs) H1 Q) : tTup a σ H Q := k
theorem x_lst {a : TA} (k : a σ H fun xs H1 => LenNew xs (.lst xs) H1 Q) : tLst a σ H Q := k
theorem x_sl {r : V → Option Int → Option Int → Hp → VK → Prop} {tl th : TO} (k : ta σ H fun x H1 => tl σ H1 fun l H2 => th σ H2 fun u H3 => r x l u H3 Q) : tSl r ta tl th σ H Q := k
theorem x_noPart {q : Option Int → Hp → Prop} (k : q none H) : tNoPart σ H q := k
theorem x_part {q : Option Int → Hp → Prop} (k : ta σ H fun x H1 => ∃ i, x = .int i ∧ q (some i) H1) : tPart ta σ H q := k
theorem x_ex_int {P : Int → Prop} {i : Int} (k : P i) : ∃ j, V.int i = .int j ∧ P j := ⟨i, rfl, k⟩
theorem x_slL {xs : List V} {lo hi : Option Int} (h : H a = some (.lst xs)) (k : JustNew (.lst (cutV xs lo hi)) H Q) : rSlL K (.ref a) lo hi H Q := ⟨a, xs, rfl, SqL.of h, k⟩
-- tests, statements
theorem x_ex_bl {P : Bool → Prop} {b : Bool} (k : P b) : ∃ c, V.bl b = .bl c ∧ P c := ⟨b, rfl, k⟩
theorem x_test {q : Bool → Hp → Prop} (k : ta σ H fun x H' => ∃ b, x = .bl b ∧ q b H') : tTest ta σ H q := k
theorem x_B {q : Bool → Hp → Prop} (k : ta σ H fun x H' => ∃ b, x = .bl b ∧ q b H') : tB ta σ H q := k
theorem x_and {q : Bool → Hp → Prop} (k : t σ H fun c H1 => if c = true then u σ H1 q else q false H1) : tAnd t u σ H q := k
theorem x_or {q : Bool → Hp → Prop} (k : t σ H fun c H1 => if c = true then q true H1 else u σ H1 q) : tOr t u σ H q := k
theorem x_not {q : Bool → Hp → Prop} (k : t σ H fun c H1 => q (!c) H1) : tNot t σ H q := k
theorem x_andV (k : ta σ H fun x H1 => ∃ c, x = .bl c ∧ if c = true then tb σ H1 Q else Q (.bl false) H1) : tAndV ta tb σ H Q := k
theorem x_orV (k : ta σ H fun x H1 => ∃ c, x = .bl c ∧ if c = true then Q (.bl true) H1 else tb σ H1 Q) : tOrV ta tb σ H Q := k
theorem x_notV (k : ta σ H fun x H1 => ∃ c, x = .bl c ∧ Q (.bl (!c)) H1) : tNotV ta σ H Q := k
theorem x_ifE (k : t σ H fun c H1 => if c = true then ta σ H1 Q else tb σ H1 Q) : tIf t ta tb σ H Q := k
theorem x_iteT (k : A) : if true = true then A else B := by rw [if_pos rfl]; exact k
theorem x_iteF (k : B) : if false = true then A else B := by rw [if_neg Bool.false_ne_true]; exact k
theorem x_iteD {c : Prop} [Decidable c] (k1 : c → A) (k2 : ¬ c → B) : if decide c = true then A else B := by
  by_cases h : c
  · rw [decide_eq_true h, if_pos rfl]; exact k1 h
  · rw [decide_eq_false h, if_neg Bool.false_ne_true]; exact k2 h
theorem x_iteN {c : Prop} [Decidable c] (k1 : ¬ c → A) (k2 : c → B) : if (!decide c) = true then A else B := by
  by_cases h : c
  · rw [decide_eq_true h]; exact x_iteF (k2 h)
  · rw [decide_eq_false h]; exact x_iteT (k1 h)
theorem x_iteB {c : Bool} (k1 : c = true → A) (k2 : c = false → B) : if c = true then A else B := by
  cases c with
  | true => exact x_iteT (k1 rfl)
  | false => exact x_iteF (k2 rfl)
theorem x_if {tu tw : TS} (k : t σ H fun b H1 => if b = true then tu D σ H1 else tw D σ H1) : tIfS t tu tw D σ H := k
theorem x_seq {tu tw : TS} (k : tu { D with nx := tw D } σ H) : tSeq tu tw D σ H := k
theorem x_next (k : D.nx σ H) : tNext D σ H := k
theorem x_asg {g : TG} (k : ta σ H fun x H1 => g x σ H1 D.nx) : tAsg ta g D σ H := k
theorem x_gName {i : Nat} {q : L2.St → Hp → Prop} (k : q (σ.set i (some v)) H) : gName i v σ H q := k
theorem x_gTup {n : Nat} {g : TGs} {q : L2.St → Hp → Prop} {xs : List V} (h : H p = some (.tup xs)) (hn : xs.length = n) (k : g xs σ H q) : gTup K n g (.ref p) σ H q := ⟨p, xs, rfl, SqT.of h, hn, k⟩
theorem x_gCons {g : TG} {gs : TGs} {vs : List V} {q : L2.St → Hp → Prop} (k : g v σ H fun σ' H' => gs vs σ' H' q) : gCons g gs (v :: vs) σ H q := ⟨v, vs, rfl, k⟩
theorem x_gNil {q : L2.St → Hp → Prop} (k : q σ H) : gNil [] σ H q := ⟨rfl, k⟩
theorem x_ret (k : ta σ H D.rt) : tRet ta D σ H := k
theorem x_drop (k : ta σ H fun _ H1 => D.nx σ H1) : tDrop ta D σ H := k
theorem x_par {i j : Nat} {a : TA} (k : a σ H fun vs H1 => ∃ v w, vs = [v, w] ∧ D.nx ((σ.set i (some v)).set j (some w)) H1) : tPar i j a D σ H := k
theorem x_ex_2 {P : V → V → Prop} (k : P v w) : ∃ a b, [v, w] = [a, b] ∧ P a b := ⟨v, w, rfl, k⟩
theorem x_aug {i : Nat} {ti : TIp} (hx : σ[i]? = some (some v)) (k : ta σ H fun y H1 => ti v y H1 fun z H2 => D.nx (σ.set i (some z)) H2) : tAug i ta ti D σ H := ⟨v, hx, k⟩
theorem x_ipI {f : Int → Int → Int} {i j : Int} (k : Q (.int (f i j)) H) : ipI f (.int i) (.int j) H Q := ⟨i, j, rfl, rfl, k⟩
theorem x_augS {to ti te : TE} {tget : V → V → Hp → VK → Prop} {tip : TIp} {tset : TSet} (k : to σ H fun o H1 => ti σ H1 fun i H2 => tget o i H2 fun x H3 => te σ H3 fun y H4 => tip x y H4 fun z H5 => tset o i z H5 fun H6 => D.nx σ H6) : tAugS to ti te tget tip tset D σ H := k
theorem x_gSub {to ti : TE} {s : TSet} {q : L2.St → Hp → Prop} (k : to σ H fun o H1 => ti σ H1 fun i H2 => s o i v H2 fun H3 => q σ H3) : gSub to ti s v σ H q := k
theorem x_setL {xs : List V} {i : Int} {j : Nat} {q : Hp → Prop} (h : H p = some (.lst xs)) (hi : ixN xs.length i = some j) (k : q (upd H p (.lst (xs.set j v)))) : rSetL (.ref p) (.int i) v H q := ⟨p, xs, i, j, rfl, rfl, h, hi, k⟩
theorem at_nat {xs : List V} {i : Int} (h0 : 0 ≤ i) (h : xs[i.toNat]? = some v) : atI xs i = some v := by
  have e : i = ((i.toNat : Nat) : Int) := by omega
  rw [e]
  exact atI_nat h
theorem at_map {ns : List Int} {i : Int} (h0 : 0 ≤ i) (h : i < ((ns.map V.int).length : Int)) : ∃ n, atI (ns.map V.int) i = some (.int n) := by
  rw [List.length_map] at h
  have hl : i.toNat < ns.length := by omega
  exact ⟨ns[i.toNat], at_nat h0 (by simp [hl])⟩
theorem Ex.bagTo {x0 y0 z0 x y z : Int} (hb : H b = some (.lst [.int x0, .int y0, .int z0, .ref c])) (same : ∀ a, a ≠ b → H' a = H a) (hb' : H' b = some (.lst [.int x, .int y, .int z, .ref c])) (hx : 0 ≤ x) (hy : 0 ≤ y) (hy2 : y < 2147483647) (hz : 0 ≤ z) : Ex H H' := by
  refine ⟨fun a o q n => ?_, fun b1 c1 q => ?_⟩
  · by_cases e : a = b
    · subst e
      rw [hb] at q
      exact absurd (Option.some.inj q).symm (n _ _ _ _)
    · rw [same a e]; exact q
  · obtain ⟨x1, y1, z1, ns1, k1, k2, k3⟩ := q
    have n2 : c1 ≠ b := fun e => by
      subst e
      rw [hb] at k2
      exact NB.ints _ _ _ _ (Option.some.inj k2).symm
    by_cases e : b1 = b
    · subst e
      rw [hb] at k1
      have ec : c = c1 := by
        injection k1 with k1
        injection k1 with k1
        exact V.ref.inj (List.cons.inj (List.cons.inj (List.cons.inj (List.cons.inj k1).2).2).2).1
      subst ec
      exact ⟨x, y, z, ns1, hb', by rw [same _ n2]; exact k2, hx, hy, hy2, hz⟩
    · exact ⟨x1, y1, z1, ns1, by rw [same _ e]; exact k1, by rw [same _ n2]; exact k2, k3⟩
-- calls
theorem x_cons {a : TA} {q : List V → Hp → Prop} (k : ta σ H fun x H1 => a σ H1 fun xs H2 => q (x :: xs) H2) : tCons ta a σ H q := k
theorem x_nil {q : List V → Hp → Prop} (k : q [] H) : tNil σ H q := k
theorem x_CB {r : List V → Hp → VK → Prop} {a : TA} (k : a σ H fun vs H1 => r vs H1 Q) : tCB r a σ H Q := k
/-- a promise: what it asks, what it gives -/
def Prom (pre : List V → Hp → Prop) (post : List V → V → Hp → Prop) : Sp := fun vs H Q _ => pre vs H ∧ ∀ v H1, Ex H H1 → post vs v H1 → Q v H1
theorem x_call {pre : List V → Hp → Prop} {post : List V → V → Hp → Prop} {E : XK} {a : TA} (k : a σ H fun vs H1 => pre vs H1 ∧ ∀ v H2, Ex H1 H2 → post vs v H2 → Q v H2) : tCall (Prom pre post) [] E a σ H Q := by
  show a σ H fun vs H1 => Prom pre post (vs ++ []) H1 Q E
  have e : (fun (vs : List V) (H1 : Hp) => Prom pre post (vs ++ []) H1 Q E) = fun vs H1 => pre vs H1 ∧ ∀ v H2, Ex H1 H2 → post vs v H2 → Q v H2 := by
    funext vs H1
    rw [List.append_nil]
    rfl
  rw [e]
  exact k
-- built-ins by name
def rAbs : List V → Hp → VK → Prop := fun xs H Q => ∃ i, xs = [.int i] ∧ Q (.int (if i < 0 then -i else i)) H
def rInt : List V → Hp → VK → Prop := fun xs H Q => (∃ i, xs = [.int i] ∧ Q (.int i) H) ∨ ∃ k, xs = [.bl k] ∧ Q (.int (if k then 1 else 0)) H
def rLen (K : PySem.W.Frag) : List V → Hp → VK → Prop := fun xs H Q => ∃ p ys, xs = [.ref p] ∧ (SqL K H p ys ∨ SqT K H p ys) ∧ Q (.int ys.length) H
theorem x_abs {i : Int} (k : Q (.int (if i < 0 then -i else i)) H) : rAbs [.int i] H Q := ⟨i, rfl, k⟩
theorem x_intI {i : Int} (k : Q (.int i) H) : rInt [.int i] H Q := .inl ⟨i, rfl, k⟩
theorem x_intB {b : Bool} (k : Q (.int (if b then 1 else 0)) H) : rInt [.bl b] H Q := .inr ⟨b, rfl, k⟩
theorem x_lenL {xs : List V} (h : H p = some (.lst xs)) (k : Q (.int xs.length) H) : rLen K [.ref p] H Q := ⟨p, xs, rfl, .inl (SqL.of h), k⟩
theorem x_lenT {xs : List V} (h : H p = some (.tup xs)) (k : Q (.int xs.length) H) : rLen K [.ref p] H Q := ⟨p, xs, rfl, .inr (SqT.of h), k⟩
end
section
variable {X : Cx}
theorem c_abs : CallR X (.builtin "abs") rAbs := call_abs
theorem c_int : CallR X (.type "int") rInt := call_int1
theorem c_len : CallR X (.builtin "len") (rLen X.K) := call_len_seq
/-- xs[i] read for xs[i] op= e -/
theorem get_list : PGet X (rIxL X.K) := by
  intro pins s σ H o i ov iv Q I ro ri h
  obtain ⟨p, xs, n, z, rfl, rfl, hq, he, q⟩ := h
  cases ro
  obtain ⟨t, rfl⟩ := ri
  obtain ⟨its, r, pl, hz⟩ := I.list hq
  obtain ⟨j, h1, h2, h3, h4, h5⟩ := atI_get he
  obtain ⟨w, ew, rw'⟩ := r.get h2
  have hl := r.length
  have hn := line63
  have fin : EP X pins σ Q w s := ⟨z, H, I, rw', q⟩
  by_cases h0 : 0 ≤ n
  · have hj : n.toNat = j := by
      rw [seqIndex_of h0 h5] at h1
      exact Option.some.inj h1
    exact wpAny_getItem_list pl.isList h0 (by omega) (by rw [hj]; simpa using ew) fin
  · have hj : (n + (its.toArray.size : Int)).toNat = j := by
      rw [seqIndex_neg (by omega) h4] at h1
      rw [List.size_toArray, ← hl]
      exact Option.some.inj h1
    exact wpAny_getItem_list_neg pl.isList (by omega) (by rw [List.size_toArray]; omega) (by omega) (by rw [hj]; simpa using ew) fin
end
end Sx

set_option Elab.async false
set_option linter.all false
set_option maxRecDepth 100000
set_option maxHeartbeats 2000000
namespace Sx
open PySem PySem.Spec PyProof.Rows L2

def isI : V → Bool
  | .int _ => true
  | _ => false
def isR : V → Bool
  | .ref _ => true
  | _ => false
theorem NB.at0b {v : V} {xs : List V} (h : isI v = false) : NB (.lst (v :: xs)) := NB.at0 fun i e => by rw [e] at h; cases h
theorem NB.at3b {a b c v : V} {xs : List V} (h : isR v = false) : NB (.lst (a :: b :: c :: v :: xs)) := NB.at3 fun i e => by rw [e] at h; cases h
/-- tuples stay -/
def Tx (H H' : Hp) : Prop := ∀ a xs, H a = some (.tup xs) → H' a = some (.tup xs)
section
variable {H H' H1 H2 : Hp} {p a b c l : Addr} {o u : HO} {K : PySem.W.Frag} {σ : L2.St} {Q : VK} {v w : V} {D : Ends} {t : TT} {ta tb te : TE} {A B : Prop}
theorem Ex.tx (e : Ex H H1) : Tx H H1 := fun a xs h => e.kp a _ h NB.tup
theorem Tx.set {d : Addr} {ys : List V} (h : H d = some (.lst ys)) : Tx H (upd H d o) := fun a xs q => by
  rw [upd_ne (ne_of q h (by intro z; cases z))]
  exact q
theorem Tx.new (h : H d = none) : Tx H (upd H d o) := fun a xs q => by
  rw [upd_ne (ne_of_none q h)]
  exact q
theorem Tx.trans (e : Tx H H1) (f : Tx H1 H2) : Tx H H2 := fun a xs h => f a xs (e a xs h)

/-- a comprehension: I tells the turn and what is made so far -/
theorem lc_any {J : It} {n : Nat} {g : TG} {vs : List Nat} (I : Nat → List V → Hp → Prop) (h0 : I 0 [] H1)
    (mono : ∀ i acc H H', Tx H H' → I i acc H → I i acc H') (nb : ∀ i acc H, I i acc H → NB (.lst acc) ∧ acc.length < sizeLine)
    (go : ∀ i H', i < n → Ex H1 H' → J.go i H') (stop : ∀ H', Ex H1 H' → J.stop n H')
    (turn : ∀ i acc x H' H'', i < n → Ex H1 H' → I i acc H' → J.yld i H' x H'' → ∀ kk : Option V → Hp → Prop, (∀ y H4, Ex H' H4 → I (i + 1) (acc ++ [y]) H4 → kk (some y) H4) → (∀ H4, Ex H' H4 → I (i + 1) acc H4 → kk none H4) →
      g x (wipe σ vs) H'' fun σ2 H2 => wipe σ2 vs = wipe σ vs ∧ t σ2 H2 fun b H3 => if b = true then te σ2 H3 (fun y H4 => kk (some y) H4) else kk none H3)
    (k : ∀ p ys H2, Ex H1 H2 → H1 p = none → H2 p = some (.lst ys) → I n ys H2 → Q (.ref p) H2) :
    ∀ D, H1 D = none → ∃ W : Nat → Nat → Hp → Prop, (∃ m, W 0 m (upd H1 D (.lst []))) ∧ ∀ i m H, W i m H →
      (J.stop i H ∧ Q (.ref D) H) ∨ (J.go i H ∧ ∃ Nx : Hp → Prop, (∀ H', Nx H' → ∃ m', m' < m ∧ W (i + 1) m' H') ∧ ∀ x H', J.yld i H x H' → g x (wipe σ vs) H' fun σ2 H2 => wipe σ2 vs = wipe σ vs ∧ t σ2 H2 fun b H3 =>
        if b = true then te σ2 H3 fun y H4 => ∃ acc, H4 D = some (.lst acc) ∧ acc.length < sizeLine ∧ Nx (upd H4 D (.lst (acc ++ [y]))) else Nx H3) := by
  intro D hD
  refine ⟨fun i m H => m = n - i ∧ i ≤ n ∧ Ex H1 H ∧ ∃ acc, H D = some (.lst acc) ∧ I i acc H, ⟨n, rfl, Nat.zero_le _, Ex.new hD, [], upd_same, mono _ _ _ _ (Tx.new hD) h0⟩, ?_⟩
  rintro i m H ⟨rfl, hi, e, acc, hd, hI⟩
  by_cases hlt : i < n
  · refine .inr ⟨go i H hlt e, fun H' => i + 1 ≤ n ∧ Ex H1 H' ∧ ∃ acc, H' D = some (.lst acc) ∧ I (i + 1) acc H', fun H' q => ⟨n - (i + 1), by omega, rfl, q⟩, fun x H' y => ?_⟩
    have nbA := nb _ _ _ hI
    refine turn i acc x H H' hlt e hI y (fun o H4 => match o with
      | some y => ∃ acc, H4 D = some (.lst acc) ∧ acc.length < sizeLine ∧ (i + 1 ≤ n ∧ Ex H1 (upd H4 D (.lst (acc ++ [y]))) ∧ ∃ acc', upd H4 D (.lst (acc ++ [y])) D = some (.lst acc') ∧ I (i + 1) acc' (upd H4 D (.lst (acc ++ [y]))))
      | none => i + 1 ≤ n ∧ Ex H1 H4 ∧ ∃ acc, H4 D = some (.lst acc) ∧ I (i + 1) acc H4) (fun y H4 e4 q => ?_) (fun H4 e4 q => ?_)
    · have hd4 := e4.kp _ _ hd nbA.1
      exact ⟨acc, hd4, nbA.2, hlt, Ex.mut (e.trans e4) hD, acc ++ [y], upd_same, mono _ _ _ _ (Tx.set hd4) q⟩
    · exact ⟨hlt, e.trans e4, acc, e4.kp _ _ hd nbA.1, q⟩
  · have ei : i = n := by omega
    subst ei
    exact .inl ⟨stop H e, k D acc H e hD hd hI⟩

def LcGo (J : It) (g : TG) (t : TT) (te : TE) (vs : List Nat) (σ : L2.St) (H1 : Hp) (Q : VK) : Prop := ∀ D, H1 D = none → ∃ W : Nat → Nat → Hp → Prop, (∃ m, W 0 m (upd H1 D (.lst []))) ∧ ∀ i m H, W i m H →
      (J.stop i H ∧ Q (.ref D) H) ∨ (J.go i H ∧ ∃ Nx : Hp → Prop, (∀ H', Nx H' → ∃ m', m' < m ∧ W (i + 1) m' H') ∧ ∀ x H', J.yld i H x H' → g x (wipe σ vs) H' fun σ2 H2 => wipe σ2 vs = wipe σ vs ∧ t σ2 H2 fun b H3 =>
        if b = true then te σ2 H3 fun y H4 => ∃ acc, H4 D = some (.lst acc) ∧ acc.length < sizeLine ∧ Nx (upd H4 D (.lst (acc ++ [y]))) else Nx H3)
theorem x_lc {wi : TI} {g : TG} {vs : List Nat} (k : wi σ H fun J H1 => LcGo J g t te vs σ H1 Q) : tLc wi g t te vs σ H Q := k
def R1K (xs : List V) (H1 : Hp) (R : It → Hp → Prop) : Prop := ∃ j : Int, xs = [.int j] ∧ -(2 ^ 62) ≤ j ∧ j < 2 ^ 62 ∧ R (Itr 0 j.toNat) H1
def LK (K : PySem.W.Frag) (x : V) (H1 : Hp) (R : It → Hp → Prop) : Prop := ∃ a, x = .ref a ∧ (∃ xs, SqL K H1 a xs) ∧ R (Itl K a) H1
def ZK (K : PySem.W.Frag) (vs : List V) (H1 : Hp) (R : It → Hp → Prop) : Prop := ∃ (x : Str) (b : Addr) (ys : List V), vs = [.str x, .ref b] ∧ SqT K H1 b ys ∧ R (Zst.ItzS K x b) H1
theorem x_iR1 {a : TA} {R : It → Hp → Prop} (k : a σ H fun xs H1 => R1K xs H1 R) : iRng1 a σ H R := k
theorem x_iL {R : It → Hp → Prop} (k : ta σ H fun x H1 => LK K x H1 R) : iList K ta σ H R := k
theorem x_iZ {a : TA} {R : It → Hp → Prop} (k : a σ H fun xs H1 => ZK K xs H1 R) : Zst.iZipS K a σ H R := k
theorem x_yes {q : Bool → Hp → Prop} (k : q true H) : tYes σ H q := k

theorem lc_rng {m : Int} {j : Nat} {vs : List Nat} (hm : m < 2 ^ 62) (hm0 : -(2 ^ 62) ≤ m) (I : Nat → List V → Hp → Prop) (h0 : I 0 [] H1) (mono : ∀ i acc H H', Tx H H' → I i acc H → I i acc H') (nb : ∀ i acc H, I i acc H → NB (.lst acc) ∧ acc.length < sizeLine)
    (hw : ∀ x, wipe ((wipe σ vs).set j (some x)) vs = wipe σ vs)
    (turn : ∀ (i : Nat) acc H', (i : Int) < m → Ex H1 H' → I i acc H' → ∀ kk : Option V → Hp → Prop, (∀ y H4, Ex H' H4 → I (i + 1) (acc ++ [y]) H4 → kk (some y) H4) → (∀ H4, Ex H' H4 → I (i + 1) acc H4 → kk none H4) →
      t ((wipe σ vs).set j (some (.int (i : Int)))) H' fun b H3 => if b = true then te ((wipe σ vs).set j (some (.int (i : Int)))) H3 (fun y H4 => kk (some y) H4) else kk none H3)
    (k : ∀ p ys H2, Ex H1 H2 → H1 p = none → H2 p = some (.lst ys) → I m.toNat ys H2 → Q (.ref p) H2) : R1K [.int m] H1 fun J H2 => LcGo J (gName j) t te vs σ H2 Q := by
  refine ⟨m, rfl, hm0, hm, lc_any I h0 mono nb (fun i H' hi _ => hi) (fun H' _ => Nat.le_refl _) (fun i acc x H' H'' hi e q y kk k1 k2 => ?_) k⟩
  obtain ⟨rfl, rfl⟩ := y
  have e0 : (0 : Int) + (i : Int) = (i : Int) := Int.zero_add _
  rw [e0]
  exact ⟨hw _, turn i acc _ (by omega) e q kk k1 k2⟩
theorem lc_lst {xs : List V} {j : Nat} {vs : List Nat} (hx : H1 a = some (.lst xs)) (nbx : NB (.lst xs)) (I : Nat → List V → Hp → Prop) (h0 : I 0 [] H1) (mono : ∀ i acc H H', Tx H H' → I i acc H → I i acc H') (nb : ∀ i acc H, I i acc H → NB (.lst acc) ∧ acc.length < sizeLine)
    (hw : ∀ x, wipe ((wipe σ vs).set j (some x)) vs = wipe σ vs)
    (turn : ∀ (i : Nat) x acc H', xs[i]? = some x → Ex H1 H' → I i acc H' → ∀ kk : Option V → Hp → Prop, (∀ y H4, Ex H' H4 → I (i + 1) (acc ++ [y]) H4 → kk (some y) H4) → (∀ H4, Ex H' H4 → I (i + 1) acc H4 → kk none H4) →
      t ((wipe σ vs).set j (some x)) H' fun b H3 => if b = true then te ((wipe σ vs).set j (some x)) H3 (fun y H4 => kk (some y) H4) else kk none H3)
    (k : ∀ p ys H2, Ex H1 H2 → H1 p = none → H2 p = some (.lst ys) → I xs.length ys H2 → Q (.ref p) H2) : LK K (.ref a) H1 fun J H2 => LcGo J (gName j) t te vs σ H2 Q := by
  have hq : ∀ H', Ex H1 H' → SqL K H' a xs := fun H' e => SqL.of (e.kp _ _ hx nbx)
  refine ⟨a, rfl, ⟨xs, SqL.of hx⟩, lc_any (n := xs.length) I h0 mono nb (fun i H' hi e => ⟨xs, xs[i], hq H' e, by simp [hi]⟩) (fun H' e => ⟨xs, hq H' e, Nat.le_refl _⟩) (fun i acc x H' H'' hi e q y kk k1 k2 => ?_) k⟩
  obtain ⟨rfl, y⟩ := y
  exact ⟨hw _, turn i x acc _ (y xs (hq _ e)) e q kk k1 k2⟩
theorem lc_zip {x : Str} {ys : List V} {j1 j2 n : Nat} {vs : List Nat} (hn : (x.cps.size = n ∧ n ≤ ys.length) ∨ (ys.length = n ∧ n ≤ x.cps.size)) (hx : H1 a = some (.tup ys)) (I : Nat → List V → Hp → Prop) (h0 : I 0 [] H1) (mono : ∀ i acc H H', Tx H H' → I i acc H → I i acc H') (nb : ∀ i acc H, I i acc H → NB (.lst acc) ∧ acc.length < sizeLine)
    (hw : ∀ x y, wipe (((wipe σ vs).set j1 (some x)).set j2 (some y)) vs = wipe σ vs)
    (turn : ∀ (i : Nat) c y acc H', x.cps[i]? = some c → ys[i]? = some y → Ex H1 H' → I i acc H' → ∀ kk : Option V → Hp → Prop, (∀ y H4, Ex H' H4 → I (i + 1) (acc ++ [y]) H4 → kk (some y) H4) → (∀ H4, Ex H' H4 → I (i + 1) acc H4 → kk none H4) →
      t (((wipe σ vs).set j1 (some (.str ⟨#[c]⟩))).set j2 (some y)) H' fun b H3 => if b = true then te (((wipe σ vs).set j1 (some (.str ⟨#[c]⟩))).set j2 (some y)) H3 (fun y H4 => kk (some y) H4) else kk none H3)
    (k : ∀ p ys H2, Ex H1 H2 → H1 p = none → H2 p = some (.lst ys) → I n ys H2 → Q (.ref p) H2) : ZK K [.str x, .ref a] H1 fun J H2 => LcGo J (gTup K 2 (gCons (gName j1) (gCons (gName j2) gNil))) t te vs σ H2 Q := by
  have hq : ∀ H', Ex H1 H' → SqT K H' a ys := fun H' e => SqT.of (e.kp _ _ hx NB.tup)
  refine ⟨x, a, ys, rfl, SqT.of hx, lc_any (n := n) I h0 mono nb (fun i H' hi e => ?_) (fun H' e => ⟨ys, hq H' e, hn⟩) (fun i acc v H' H'' hi e q y kk k1 k2 => ?_) k⟩
  · have h1 : i < x.cps.size := by omega
    have h2 : i < ys.length := by omega
    exact ⟨ys, x.cps[i], ys[i], hq H' e, by simp [h1], by simp [h2]⟩
  · obtain ⟨T, c, y, rfl, hT, rfl, hc, hy⟩ := y
    have e2 : Ex H' (upd H' T (.tup [.str ⟨#[c]⟩, y])) := Ex.new hT
    refine ⟨T, _, rfl, SqT.of upd_same, rfl, _, _, rfl, _, _, rfl, rfl, hw _ _, ?_⟩
    exact turn i c y acc _ hc (hy ys (hq _ e)) (e.trans e2) (mono _ _ _ _ e2.tx q) kk (fun y H4 f g => k1 y H4 (e2.trans f) g) (fun H4 f g => k2 H4 (e2.trans f) g)

/-! ### dicts of the module -/
def rNID (K : PySem.W.Frag) (d : Addr) : R2 := fun x y H Q => ∃ (z : Str) (r : Option Value), x = .str z ∧ y = .ref d ∧ PySem.W.nsIn K d z = some r ∧ Q (.bl (!r.isSome)) H
def rIID (K : PySem.W.Frag) (d : Addr) : R2 := fun x y H Q => ∃ (z : Str) (r : Option Value), x = .str z ∧ y = .ref d ∧ PySem.W.nsIn K d z = some r ∧ Q (.bl r.isSome) H
theorem x_NID {d : Addr} {z : Str} {r : Option Value} (h : PySem.W.nsIn K d z = some r) (k : Q (.bl (!r.isSome)) H) : rNID K d (.str z) (.ref d) H Q := ⟨z, r, rfl, rfl, h, k⟩
theorem x_IID {d : Addr} {z : Str} {r : Option Value} (h : PySem.W.nsIn K d z = some r) (k : Q (.bl r.isSome) H) : rIID K d (.str z) (.ref d) H Q := ⟨z, r, rfl, rfl, h, k⟩
theorem x_ixD {w : World} {d : Addr} {z : Str} (h : KDct K w d z v) (k : Q v H) : rIxD K w (.ref d) (.str z) H Q := ⟨d, z, v, rfl, rfl, h, k⟩
theorem kdct_of {w : World} {d : Addr} {es : Array DictEntry} {n : Nat} {z : Str} {u : Value} (D : KDict K w d es n) (h : PySem.W.nsIn K d z = some (some u)) (r : RelV v u) : KDct K w d z v := ⟨es, n, u, D.at_, D.lit, h, r⟩
theorem x_NIDt {d : Addr} {z : Str} (h : PySem.W.nsIn K d z = some none) (k : Q (.bl true) H) : rNID K d (.str z) (.ref d) H Q := ⟨z, none, rfl, rfl, h, k⟩
theorem x_NIDf {d : Addr} {z : Str} {u : Value} (h : PySem.W.nsIn K d z = some (some u)) (k : Q (.bl false) H) : rNID K d (.str z) (.ref d) H Q := ⟨z, some u, rfl, rfl, h, k⟩
theorem x_IIDt {d : Addr} {z : Str} {u : Value} (h : PySem.W.nsIn K d z = some (some u)) (k : Q (.bl true) H) : rIID K d (.str z) (.ref d) H Q := ⟨z, some u, rfl, rfl, h, k⟩
theorem x_IIDf {d : Addr} {z : Str} (h : PySem.W.nsIn K d z = some none) (k : Q (.bl false) H) : rIID K d (.str z) (.ref d) H Q := ⟨z, none, rfl, rfl, h, k⟩
theorem x_ixDs {w : World} {d : Addr} {z y : Str} {es : Array DictEntry} {n : Nat} (D : KDict K w d es n) (h : ∃ t, PySem.W.nsIn K d z = some (some (.str y t))) (k : Q (.str y) H) : rIxD K w (.ref d) (.str z) H Q := by
  obtain ⟨t, h⟩ := h
  exact ⟨d, z, .str y, rfl, rfl, kdct_of (v := .str y) D h ⟨t, rfl⟩, k⟩
/-! ### in -/
def rInS : R2 := fun x y H Q => ∃ i j, x = .str i ∧ y = .str j ∧ Q (.bl (!(Builtin.Str.occurrences j i 0 j.length 1).isEmpty)) H
theorem x_InSt {i j : Str} (h : (Builtin.Str.occurrences j i 0 j.length 1).isEmpty = false) (k : Q (.bl true) H) : rInS (.str i) (.str j) H Q := ⟨i, j, rfl, rfl, by rw [h]; exact k⟩
theorem x_InSf {i j : Str} (h : (Builtin.Str.occurrences j i 0 j.length 1).isEmpty = true) (k : Q (.bl false) H) : rInS (.str i) (.str j) H Q := ⟨i, j, rfl, rfl, by rw [h]; exact k⟩
theorem x_EqSt {i j : Str} (h : i = j) (k : Q (.bl true) H) : rEq (.str i) (.str j) H Q := ⟨rfl, by rw [decide_eq_true (by rw [h])]; exact k⟩
theorem x_EqSf {i j : Str} (h : i ≠ j) (k : Q (.bl false) H) : rEq (.str i) (.str j) H Q := ⟨rfl, by rw [decide_eq_false (fun e => h (V.str.inj e))]; exact k⟩
theorem x_NeSt {i j : Str} (h : i ≠ j) (k : Q (.bl true) H) : rNe (.str i) (.str j) H Q := ⟨rfl, by rw [decide_eq_false (fun e => h (V.str.inj e))]; exact k⟩
theorem x_NeSf {i j : Str} (h : i = j) (k : Q (.bl false) H) : rNe (.str i) (.str j) H Q := ⟨rfl, by rw [decide_eq_true (by rw [h])]; exact k⟩
theorem inV_ints {n : Int} {ns : List Int} : inV (.int n) (ns.map V.int) = decide (n ∈ ns) := by
  unfold inV
  rw [List.any_map]
  rw [Bool.eq_iff_iff, List.any_eq_true, decide_eq_true_eq]
  constructor
  · rintro ⟨m, h1, h2⟩
    have e : m = n := by simpa [eqV] using h2
    exact e ▸ h1
  · intro h
    exact ⟨n, h, by simp [eqV]⟩
theorem flat_ints {ns : List Int} : (ns.map V.int).all flatV = true := by
  rw [List.all_map]
  exact List.all_eq_true.mpr fun _ _ => rfl
theorem x_notInI {n : Int} {ns : List Int} (h : H p = some (.lst (ns.map V.int))) (k : Q (.bl (!decide (n ∈ ns))) H) : rIn K true (.int n) (.ref p) H Q :=
  ⟨p, _, rfl, .inl (SqL.of h), rfl, flat_ints, by rw [if_pos rfl, inV_ints]; exact k⟩
theorem x_inTt {xs : List V} (h : H p = some (.tup xs)) (hv : flatV v = true) (ha : xs.all flatV = true) (e : inV v xs = true) (k : Q (.bl true) H) : rIn K false v (.ref p) H Q := ⟨p, _, rfl, .inr (SqT.of h), hv, ha, by rw [if_neg Bool.false_ne_true, e]; exact k⟩
theorem x_inTf {xs : List V} (h : H p = some (.tup xs)) (hv : flatV v = true) (ha : xs.all flatV = true) (e : inV v xs = false) (k : Q (.bl false) H) : rIn K false v (.ref p) H Q := ⟨p, _, rfl, .inr (SqT.of h), hv, ha, by rw [if_neg Bool.false_ne_true, e]; exact k⟩
/-! ### tuples, lists -/
theorem x_slT {xs : List V} {lo hi : Option Int} (h : H a = some (.tup xs)) (hw : ¬ (HT.sIx xs.length 0 lo = 0 ∧ HT.sIx xs.length xs.length hi = xs.length)) (k : JustNew (.tup (cutV xs lo hi)) H Q) : rSlT K (.ref a) lo hi H Q := ⟨a, xs, rfl, SqT.of h, hw, k⟩
theorem x_catT {xs ys : List V} (h : H a = some (.tup xs)) (h' : H b = some (.tup ys)) (n1 : xs ≠ []) (n2 : ys ≠ []) (l : xs.length + ys.length ≤ sizeLine) (k : JustNew (.tup (xs ++ ys)) H Q) : rCatT K (.ref a) (.ref b) H Q := ⟨a, b, xs, ys, rfl, rfl, SqT.of h, SqT.of h', n1, l, fun e => absurd e n2, fun _ => k⟩
theorem x_cat {xs ys : List V} (h : H a = some (.lst xs)) (h' : H b = some (.lst ys)) (l : xs.length + ys.length ≤ sizeLine) (k : JustNew (.lst (xs ++ ys)) H Q) : rCat (.ref a) (.ref b) H Q := ⟨a, b, xs, ys, rfl, rfl, h, h', l, k⟩
def SortK (ns : List Int) (H : Hp) (Q : VK) : Prop := ∀ (ns' : List Int) (p : Addr), ns'.Perm ns → ns'.Pairwise (· ≤ ·) → H p = none → Q (.ref p) (upd H p (.lst (ns'.map V.int)))
theorem x_sorted {ns : List Int} (h : H a = some (.lst (ns.map V.int))) (l : ns.length < 64) (k : ∀ (ns' : List Int) (p : Addr) (H1 : Hp), ns'.Perm ns → ns'.Pairwise (· ≤ ·) → Ex H H1 → H p = none → H1 p = some (.lst (ns'.map V.int)) → Q (.ref p) H1) : rSorted K [.ref a] H Q :=
  ⟨a, ns, rfl, SqL.of h, l, fun ns' p h1 h2 hp => k ns' p _ h1 h2 (Ex.new hp) hp upd_same⟩
/-! ### loops -/
def ForGo (J : It) (g : TG) (tb : TS) (D : Ends) (σ : L2.St) (H1 : Hp) : Prop := ∃ W : Nat → Nat → L2.St → Hp → Prop, (∃ m, W 0 m σ H1) ∧ ∀ i m σ H, W i m σ H →
      (J.stop i H ∧ D.nx σ H) ∨ (J.go i H ∧ ∃ N : L2.St → Hp → Prop, (∀ σ' H', N σ' H' → ∃ m', m' < m ∧ W (i + 1) m' σ' H') ∧ ∀ v H', J.yld i H v H' → g v σ H' fun σ2 H2 => tb { D with nx := N, ct := N, bk := D.nx } σ2 H2)
theorem x_for {wi : TI} {g : TG} {tb : TS} (k : wi σ H fun J H1 => ForGo J g tb D σ H1) : tFor wi g tb D σ H := k
theorem for_rng {m : Int} {j : Nat} {tb : TS} (hm : m < 2 ^ 62) (hm0 : -(2 ^ 62) ≤ m) (Pv : Nat → L2.St → Hp → Prop) (h0 : Pv 0 σ H1)
    (hs : ∀ (i : Nat) σ H, (i : Int) < m → Pv i σ H → tb { D with nx := Pv (i + 1), ct := Pv (i + 1), bk := D.nx } (σ.set j (some (.int (i : Int)))) H) (hd : ∀ σ H, Pv m.toNat σ H → D.nx σ H) : R1K [.int m] H1 fun J H2 => ForGo J (gName j) tb D σ H2 := by
  refine ⟨m, rfl, hm0, hm, for_range Pv h0 (fun i σ H hi q => ?_) hd⟩
  have e0 : (0 : Int) + (i : Int) = (i : Int) := Int.zero_add _
  show tb { D with nx := Pv (i + 1), ct := Pv (i + 1), bk := D.nx } (σ.set j (some (.int ((0 : Int) + (i : Int))))) H
  rw [e0]
  exact hs i σ H (by omega) q
theorem for_lst {xs : List V} {j : Nat} {tb : TS} (hx : H1 a = some (.lst xs)) (Pv : Nat → L2.St → Hp → Prop) (h0 : Pv 0 σ H1) (hl : ∀ i σ H, i ≤ xs.length → Pv i σ H → H a = some (.lst xs))
    (hs : ∀ (i : Nat) x σ H, xs[i]? = some x → Pv i σ H → tb { D with nx := Pv (i + 1), ct := Pv (i + 1), bk := D.nx } (σ.set j (some x)) H) (hd : ∀ σ H, Pv xs.length σ H → D.nx σ H) : LK K (.ref a) H1 fun J H2 => ForGo J (gName j) tb D σ H2 :=
  ⟨a, rfl, ⟨xs, SqL.of hx⟩, for_list Pv h0 (fun i σ H hi q => SqL.of (hl i σ H hi q)) (fun i x σ H h q => hs i x σ H h q) hd⟩
/-! ### methods -/
theorem x_bm {T : String} {r : V → List V → Hp → VK → Prop} {a : TA} (k : ta σ H fun x H1 => tyV K T x H1 ∧ a σ H1 fun xs H2 => r x xs H2 Q) : tBM K T r ta a σ H Q := k
theorem tyL {xs : List V} (h : H p = some (.lst xs)) : tyV K "list" (.ref p) H := .inl ⟨rfl, _, SqL.of h⟩
def rInsert : V → List V → Hp → VK → Prop := fun x vs H Q => ∃ (l : Addr) (xs : List V) (i : Int) (y : V), x = .ref l ∧ vs = [.int i, y] ∧ H l = some (.lst xs) ∧ xs.length < sizeLine ∧ 0 ≤ i ∧ i < 2 ^ 63 ∧ Q .non (upd H l (.lst (xs.take i.toNat ++ [y] ++ xs.drop i.toNat)))
theorem x_insert {xs : List V} {i : Int} (h : H l = some (.lst xs)) (n : xs.length < sizeLine) (h0 : 0 ≤ i) (h1 : i < 2 ^ 63) (k : Q .non (upd H l (.lst (xs.take i.toNat ++ [v] ++ xs.drop i.toNat)))) : rInsert (.ref l) [.int i, v] H Q := ⟨l, xs, i, v, rfl, rfl, h, n, h0, h1, k⟩
/-! ### list(range(n)) -/
theorem x_lstRg {te : L2.St → Hp → (Int → Int → Hp → Prop) → Prop} (k : te σ H fun a b H1 => RgOk a b ∧ JustNew (.lst (rgV a b)) H1 Q) : tLstRg te σ H Q := k
theorem x_callS {sp : Sp} {E : XK} {a : TA} (k : a σ H fun vs H1 => sp vs H1 Q E) : tCall sp [] E a σ H Q := by
  show a σ H fun vs H1 => sp (vs ++ []) H1 Q E
  have e : (fun (vs : List V) (H1 : Hp) => sp (vs ++ []) H1 Q E) = fun vs H1 => sp vs H1 Q E := by
    funext vs H1
    rw [List.append_nil]
  rw [e]
  exact k
theorem x_gConsE {g : TG} {gs : TGs} {ws vs : List V} {q : L2.St → Hp → Prop} (h : ws = v :: vs) (k : g v σ H fun σ' H' => gs vs σ' H' q) : gCons g gs ws σ H q := by rw [h]; exact x_gCons k
theorem x_gNilE {ws : List V} {q : L2.St → Hp → Prop} (h : ws = []) (k : q σ H) : gNil ws σ H q := by rw [h]; exact x_gNil k
theorem x_iteTe {c : Bool} (h : c = true) (k : A) : if c = true then A else B := by rw [if_pos h]; exact k
theorem x_iteFe {c : Bool} (h : c = false) (k : B) : if c = true then A else B := by rw [if_neg (by rw [h]; exact Bool.false_ne_true)]; exact k
theorem x_rg1 {q : Int → Int → Hp → Prop} (k : ta σ H fun x H1 => ∃ n, x = .int n ∧ q 0 n H1) : tRg1 ta σ H q := k
end
section
variable {X : Cx}
theorem c_notInD {d : Addr} {es : Array DictEntry} {n : Nat} (D : KDict X.K X.w d es n) : OpR X (compareOp .NotIn) (rNID X.K d) := op_notIn_kd D
theorem c_inD {d : Addr} {es : Array DictEntry} {n : Nat} (D : KDict X.K X.w d es n) : OpR X (compareOp .In) (rIID X.K d) := op_in_kd D
theorem pg_tupB {sB : Shared} {HB : Hp} {scope : Scope} {cenv : Env} {fp : List Addr} {es : List Expr} {k : Nat} {t : TGs} {n : Nat} {pos : Pos} (hc : X.calm = true) (h : PGs (X.blk sB HB scope cenv fp) es t)
    (hn : (assignEach es (X.blk sB HB scope cenv fp).env).length = n := by rfl) (hst : (assignEach es (X.blk sB HB scope cenv fp).env).findIdx? (·.1) = none := by rfl) : PG (X.blk sB HB scope cenv fp) (.Tuple es k pos) (gTup X.K n t) := pg_tup (X := X.blk sB HB scope cenv fp) hc h hn hst
theorem c_inS : OpR X (compareOp .In) rInS := op_in_str
theorem c_insert : MtR X "list.insert" rInsert := mt_insert
end
end Sx

set_option Elab.async false
set_option linter.all false
set_option maxRecDepth 100000
set_option maxHeartbeats 2000000
namespace Ow
open PySem PySem.Spec PyProof.Rows L2 ItX

/-! ### len(set(xs)), xs a list of ints -/
def dis (ns : List Int) : Nat := (PyProof.Rows.firstMet (fun i => ns.getD i 0) ns.length).length
def tLenSetI (K : PySem.W.Frag) (ta : TE) : TE := fun σ H Q => ta σ H fun x H1 => ∃ (l : Addr) (ns : List Int), x = .ref l ∧ SqL K H1 l (ns.map V.int) ∧ ns.length ≤ 1000 ∧ Q (.int (dis ns)) H1
section
variable {X : Cx}
theorem pe_lenSetI {a : Expr} {ta : TE} {p p2 q pos : Pos} (hc : X.calm = true) (hg : Gl X "len") (hm : X.mg "len" = none) (hg2 : Gl X "set") (hm2 : X.mg "set" = none) (ha : PE X a ta)
    (na : starEach [a] X.env = (false, eval a X.env) :: starEach [] X.env := by rfl) : PE X (.Call (.Name "len" p) [.Call (.Name "set" p2) [a] [] q] [] pos) (tLenSetI X.K ta) := by
  constructor
  intro pins s σ H Q I h
  refine Call_ (ld_blt I hg hm boot_len (PyProof.Rows.callWith_builtin1 (PyProof.Rows.args_cons ?_ rfl) rfl rfl))
  refine Call_ (ld_blt I hg2 hm2 boot_set (PyProof.Rows.callWith_type1 (PyProof.Rows.args_cons (thn (ha.run pins s σ H _ I h) ?_) na) na rfl))
  rintro v s1 ⟨x, H1, I1, r1, l, ns, rfl, hq, h1, q1⟩
  refine PyProof.Rows.args_nil ?_
  cases r1
  obtain ⟨its, r, pl, hz⟩ := I1.list hq
  have hl : its.toArray.size = ns.length := by rw [List.size_toArray, ← r.length, List.length_map]
  refine PySem.call_set_list (I1.ok.hd hc) pl.isList (by simpa using intsAre_of r) (by rw [hl]; exact Nat.lt_of_le_of_lt (Nat.succ_le_succ h1) (by decide)) fun h' tk hS hk => PyProof.Rows.args_nil ?_
  rw [hl] at hS
  obtain ⟨o, es, ep, t, ho, hex, hd, _, _, _, hf, hn⟩ := hS
  have I2 : Inv X pins σ H1 { s1 with heap := h', toks := tk } := I1.kept fun b o e => hk b o (Heap.lt_size e) e
  have hle : es.size ≤ 100000 := by
    rw [hn]
    refine Nat.le_trans (PyProof.Rows.firstMet_length_le _ _) (by omega)
  exact call_len_set ho hex hd hf (by omega) ⟨.int (dis ns), H1, I2.tok _, ⟨_, by rw [hn]; rfl⟩, q1⟩
end

/-! ### the iterator of a tuple -/
def itT (l : Addr) : Obj := { cls := .type "tuple_iterator", data := .fields #[.ref l, .int 0 0] }
def ItT (l it : Addr) : HO := .ext fun h => h.get? it = some (itT l)
theorem itT_ok {P : Program} {w : World} {H : Hp} {h : Heap} {l it : Addr} (e : h.get? it = some (itT l)) : ObjOk P w H h it (ItT l it) := ⟨e, ⟨_, e⟩, fun _ _ q k => k _ q⟩
def rIterT (K : PySem.W.Frag) (n : Nat) : List V → Hp → VK → Prop := fun xs H Q => ∃ (l : Addr) (zs : List V), xs = [.ref l] ∧ SqT K H l zs ∧ ∀ it, H it = none → n ≤ it → Q (.ref it) (upd H it (ItT l it))
theorem iter_tup {prog : Program} {w : World} {A : Around} {E : Value → Shared → Prop} {s : Shared} {l : Addr} {items : Array Value} {Q : Value → Shared → Prop} (hl : s.heap.IsTuple l items) (h : Q (.ref s.heap.objs.size) { s with heap := s.heap.push (itT l) }) :
    wpAny (model prog w) A (call (.builtin "iter") [.ref l]) Q E s := by
  refine Calls.call_function_entry (by decide +kernel) (by decide +kernel) PySem.W.kdk_entry_iter (PySem.W.kdk_args_iter _) ?_
  unfold Builtin.«iter»
  refine wpAny_bind (m := someArgs "iter" 1 2 _) (wpAny_of_eq (a := [Value.ref l]) (by first | rfl | kernel_rfl!) ?_)
  show wpAny _ _ (pyIter (.ref l) >>= _) _ _ _
  exact wpAny_bind (wpAny_pyIter_tuple hl (wpAny_pure ⟨_, rfl, h⟩))
section
variable {X : Cx}
theorem call_iterT : CallR X (.builtin "iter") (rIterT X.K X.s_0.heap.objs.size) := by
  rintro pins s σ H xs us Q I r ⟨l, zs, rfl, hq, q⟩
  obtain ⟨u, rfl, ru⟩ := vals1 r
  cases ru
  obtain ⟨its, rv, p, hz⟩ := I.tuple hq
  refine iter_tup (show s.heap.IsTuple l its.toArray from p) ?_
  exact ⟨.ref s.heap.objs.size, _, I.laid (t' := s.toks) (fun b u e => Heap.get?_push_of_some _ e) (Nat.le_refl _) (itT_ok (Heap.get?_push_size _ rfl)), rfl, q _ (I.hok.fresh (Nat.le_refl _)) I.sz⟩
end

/-- a def called at ONE state: what its body's reading ends in may speak of that state -/
theorem fn_at {CX : CXT} {P : Program} {w : World} {K : PySem.W.Frag} {mg : Str → Option Value} {base : Heap} {k : Nat} {f : Addr} {x qual : Str} {st : Stmt} {fd : FuncData} {N ps : List Str} (F : Fun K x qual st f fd) (S : FnScope N ps (defScope st))
    {A : Around} {outer : List Env} {s : Shared} {H : Hp} {args : Args} {us : List Value} {vs : List V} {Q : VK} {E : XK} (hl : vs.length = ps.length) (hr : Room (k + 1) A) (e0 : Env0 P w K mg base A outer s H) (hb : BindsTo s fd args (ps.zip us)) (r : Vals vs us)
    (hbody : ∀ cdv, ∃ t, PSs (cxOf CX P w K mg base N qual (defScope st) f cdv A outer s H E) (defBody st) t ∧ t { nx := fun _ H' => Q .non H', rt := Q } (start N vs) H) :
    codeAny (model P w) A (.call (.ref f) args) (CR CX outer P w H s Q E) s := by
  obtain ⟨oc, od, kV, doc, pm, an, cdv, ct, osl, rfl, lk, hcd⟩ := F.ex
  have sub : ∀ b o, base.get? b = some o → s.heap.get? b = some o := fun b o e => (e0.bs b o e).1
  have KS := e0.mod.kin.keeps sub
  refine codeAny_call_function hr.depth (KS _ _ lk) rfl S.co S.gen rfl (PySem.W.codeRec_of KS hcd) (hb _ _ _ _ ?_)
  refine wpAny_newFunctionEnv_cells S.kind (fun y hy => ?_) fun env he sB call => ?_
  · have m := S.par y.1 (List.of_mem_zip (show (y.1, y.2) ∈ _ from hy)).1
    exact m.imp id fun q => ⟨q, PySem.W.cellsFrom_some _ _ _ (.inl q)⟩
  · subst he
    obtain ⟨t, ht, hq⟩ := hbody cdv
    refine ⟨(e0.mod.nolimit.keeps sub).keeps call.toInCall.keep, codeAny_func (wpAny_mono (ht.run [] sB _ H _ (inv_start S hr.hd e0 hl r call) hq) (fun way sE z => ?_) fun _ _ z => z)⟩
    match way, z with
    | .ret _, ⟨v, _, H', J, rv, q⟩ => exact ⟨v, H', J.os, J.bare, J.base, J.hok, rv, q⟩
    | .next, ⟨_, H', J, q⟩ => exact ⟨.non, H', J.os, J.bare, J.base, J.hok, rfl, q⟩
    | .brk, ⟨_, _, _, q⟩ => exact q.elim
    | .cont, ⟨_, _, _, q⟩ => exact q.elim

/-! ### for x in o, o of a class whose __iter__ hands a tuple's iterator out -/
/-- a def of one parameter (st, at fi), asked for an object of the class, hands out the iterator of the tuple that its field holds, young at that call -/
def ItDef (P : Program) (w : World) (K : PySem.W.Frag) (mg : Str → Option Value) (base : Heap) (k : Nat) (C fi : Addr) (fld qual : Str) (st : Stmt) (N : List Str) : Prop :=
  ∀ (cdv : Value) (A : Around) (outer : List Env) (s : Shared) (H : Hp) (E : XK) (a dx : Addr) (fs : List (Str × V)) (l : Addr) (zs : List V) (Q : VK), Room k (A.deeper (envOfC qual (defScope st) s.heap.objs.size fi cdv)) →
    H a = some (.ins C dx fs) → fs.lookup fld = some (.ref l) → SqT K H l zs → (∀ it, H it = none → s.heap.objs.size ≤ it → Q (.ref it) (upd H it (ItT l it))) →
      ∃ t, PSs (cxOf CX0 P w K mg base N qual (defScope st) fi cdv A outer s H E).nox (defBody st) t ∧ t { nx := fun _ H' => Q .non H', rt := Q } (start N [.ref a]) H
def iOwnT (K : PySem.W.Frag) (C : Addr) (fld : Str) (ta : TE) : TI := fun σ H R => ta σ H fun x H1 => ∃ (a dx : Addr) (fs : List (Str × V)) (l : Addr) (zs : List V), x = .ref a ∧ H1 a = some (.ins C dx fs) ∧ fs.lookup fld = some (.ref l) ∧ SqT K H1 l zs ∧ R (Itt K l) H1
section
variable {X : Cx} {k : Nat} {C fi : Addr} {fld x qual p1 : Str} {st : Stmt} {N : List Str} {fd : FuncData} {tg e : Expr} {ta : TE}
theorem pi_own (he : PE X e ta) (F : Fun X.K x qual st fi fd) (S : FnScope N [p1] (defScope st)) (bI : Binds X.K fd [p1] []) (D : ItDef X.prog X.w X.K X.mg X.base k C fi fld qual st N) (hr : Room (k + 1) X.A) (hx : Passes CX0 X fun _ _ _ => False)
    (hit : PySem.W.findIn X.K (.ref C) "__iter__" = some (some (.ref fi))) (hitF : PySem.W.isFn X.K (.ref fi) = true) : PI X tg e (iOwnT X.K C fld ta) := by
  refine ⟨fun pins s σ H R I h => thn (he.run pins s σ H _ I h) fun v s1 ⟨y, H1, I1, r1, a, dx, fs, l, zs, ey, ea, ef, hz, q⟩ => ?_⟩
  subst ey
  cases r1
  obtain ⟨mA, J, _⟩ := ins_get I1.hok ea
  obtain ⟨od, J, _⟩ := J.look
  obtain ⟨m, hF⟩ := I1.fr
  have one : Vals [V.ref a] [Value.ref a] := .cons rfl .nil
  have bb : BindsTo s1 fd ⟨[.ref a], []⟩ ([p1].zip [Value.ref a]) := by
    have b := bI s1 [.ref a] I1.kIn rfl
    simpa using b
  have go := fn_at (CX := CX0) (E := fun _ _ _ => False) (Q := fun v H' => ∃ it, v = .ref it ∧ H1 it = none ∧ s1.heap.objs.size ≤ it ∧ H' = upd H1 it (ItT l it)) F S (vs := [.ref a]) rfl hr I1.env0 bb one fun cdv => by
    obtain ⟨t, pt, qt⟩ := D cdv X.A X.stack s1 H1 (fun _ _ _ => False) a dx fs l zs (fun v H' => ∃ it, v = .ref it ∧ H1 it = none ∧ s1.heap.objs.size ≤ it ∧ H' = upd H1 it (ItT l it)) (hr.deeper _) ea ef hz fun it n o => ⟨it, rfl, n, o, rfl⟩
    exact ⟨t, pt.nox, qt⟩
  refine PySem.W.owit_iter hF I1.ok.mod.kin J hit hitF (wpAny_call (codeAny_mono go fun r s2 hq => ?_))
  cases r with
  | error er => exact hx pins σ H1 s1 er s2 I1 hq
  | ok fl =>
    cases fl with
    | next => exact False.elim hq
    | brk => exact False.elim hq
    | cont => exact False.elim hq
    | ret u =>
      obtain ⟨_, _, I2, rv, it, rfl, en, old, rfl⟩ := I1.after hq
      cases rv
      have g : s2.heap.get? it = some (itT l) := (I2.hok it (ItT l it) upd_same).1
      have hT : s2.TypeIs (.ref it) "tuple_iterator" := ⟨_, g, rfl⟩
      have e2 : dropH (upd H1 it (ItT l it)) it = H1 := dropH_upd en
      have d := inv_drop I2 (upd_same : upd H1 it (ItT l it) it = some (ItT l it))
      have f := inv_fp I2 (upd_same : upd H1 it (ItT l it) it = some (ItT l it)) (Nat.le_trans I1.sz old)
      rw [e2] at d f
      refine wpAny_specialOf hT PySem.F.slot_tuple_iterator_next.lookup ?_
      refine ⟨it, [it], _, _, H1, rfl, d, turn_tuple l it, ⟨_, g, rfl, rfl⟩, fun b hb => ?_, q⟩
      have e : b = it := by simpa using hb
      rw [e]
      exact f
end
end Ow

set_option Elab.async false
set_option linter.all false
set_option maxRecDepth 100000
set_option maxHeartbeats 2000000
namespace Sx
open PySem PySem.Spec PyProof.Rows L2
section
variable {H H' H1 H2 : Hp} {p a b c l : Addr} {o u : HO} {K : PySem.W.Frag} {σ : L2.St} {Q : VK} {v w : V} {D : Ends} {t : TT} {ta tb te : TE} {A B : Prop}
theorem x_iteDt {i j : Int} (h : decide (i = j) = true) (k : A) : if decide (i = j) = true then A else B := by rw [if_pos h]; exact k
theorem x_iteDf {i j : Int} (h : decide (i = j) = false) (k : B) : if decide (i = j) = true then A else B := by rw [if_neg (by rw [h]; exact Bool.false_ne_true)]; exact k
theorem x_iteNt {i j : Int} (h : decide (i = j) = false) (k : A) : if (!decide (i = j)) = true then A else B := by rw [h]; exact x_iteT k
theorem x_iteNf {i j : Int} (h : decide (i = j) = true) (k : B) : if (!decide (i = j)) = true then A else B := by rw [h]; exact x_iteF k
/-! ### isinstance -/
theorem x_isiI {i : Int} {n : String} {r : Bool} (h : kitB "int" n = some r) (k : Q (.bl r) H) : rIsi K [.int i, .ty n] H Q := ⟨_, _, _, _, r, rfl, .ty n, .base (.int i), kit_ty h, k⟩
theorem x_isiS {x : Str} {n : String} {r : Bool} (h : kitB "str" n = some r) (k : Q (.bl r) H) : rIsi K [.str x, .ty n] H Q := ⟨_, _, _, _, r, rfl, .ty n, .base (.str x), kit_ty h, k⟩
theorem x_isiB {x : Bool} {n : String} {r : Bool} (h : kitB "bool" n = some r) (k : Q (.bl r) H) : rIsi K [.bl x, .ty n] H Q := ⟨_, _, _, _, r, rfl, .ty n, .base (.bl x), kit_ty h, k⟩
theorem x_isiT {xs : List V} {n : String} {r : Bool} (hp : H p = some (.tup xs)) (h : kitB "tuple" n = some r) (k : Q (.bl r) H) : rIsi K [.ref p, .ty n] H Q := ⟨_, _, _, _, r, rfl, .ty n, .base (.tup hp), kit_ty h, k⟩
theorem x_isiL {xs : List V} {n : String} {r : Bool} (hp : H p = some (.lst xs)) (h : kitB "list" n = some r) (k : Q (.bl r) H) : rIsi K [.ref p, .ty n] H Q := ⟨_, _, _, _, r, rfl, .ty n, .base (.lst hp), kit_ty h, k⟩
/-- isinstance(a list or a tuple, (list, tuple)) -/
theorem kit_lt : PySem.W.kitAny K (.type "list") [.type "list", .type "tuple"] = some true := kitAny_cons (b := true) (kit_ty (by decide +kernel)) (fun h => nomatch h) (fun _ => rfl)
theorem kit_tt : PySem.W.kitAny K (.type "tuple") [.type "list", .type "tuple"] = some true := kitAny_cons (b := false) (kit_ty (by decide +kernel)) (fun _ => kitAny_cons (b := true) (kit_ty (by decide +kernel)) (fun h => nomatch h) (fun _ => rfl)) (fun h => nomatch h)
theorem x_isi2L {xs : List V} (hp : H p = some (.lst xs)) (hl : H l = some (.tup [.ty "list", .ty "tuple"])) (k : Q (.bl true) H) : rIsiT K [.ref p, .ref l] H Q :=
  ⟨_, l, _, _, _, true, rfl, hl, .cons (.ty _) (.cons (.ty _) .nil), .base (.lst hp), kit_lt, k⟩
theorem x_isi2T {xs : List V} (hp : H p = some (.tup xs)) (hl : H l = some (.tup [.ty "list", .ty "tuple"])) (k : Q (.bl true) H) : rIsiT K [.ref p, .ref l] H Q :=
  ⟨_, l, _, _, _, true, rfl, hl, .cons (.ty _) (.cons (.ty _) .nil), .base (.tup hp), kit_tt, k⟩
/-! ### all, tuple, len -/
theorem x_all {bs : List Bool} (h : H p = some (.lst (bs.map V.bl))) (k : Q (.bl (bs.all id)) H) : rAll K [.ref p] H Q := ⟨p, bs, rfl, SqL.of h, k⟩
theorem x_allT {n : Nat} (h : H p = some (.lst (List.replicate n (.bl true)))) (k : Q (.bl true) H) : rAll K [.ref p] H Q := by
  refine ⟨p, List.replicate n true, rfl, SqL.of (by rw [h, List.map_replicate]), ?_⟩
  rw [show (List.replicate n true).all id = true by simp]
  exact k
def rTupOf (K : PySem.W.Frag) : List V → Hp → VK → Prop := fun xs H Q => ∃ p ys, xs = [.ref p] ∧ ((SqL K H p ys ∧ ∀ l, H l = none → Q (.ref l) (upd H l (.tup ys))) ∨ (SqT K H p ys ∧ Q (.ref p) H))
theorem x_tupOfL {xs : List V} (h : H p = some (.lst xs)) (k : JustNew (.tup xs) H Q) : rTupOf K [.ref p] H Q := ⟨p, xs, rfl, .inl ⟨SqL.of h, k⟩⟩
theorem x_tupOfT {xs : List V} (h : H p = some (.tup xs)) (k : Q (.ref p) H) : rTupOf K [.ref p] H Q := ⟨p, xs, rfl, .inr ⟨SqT.of h, k⟩⟩
def rLenS : List V → Hp → VK → Prop := fun xs H Q => ∃ z, xs = [.str z] ∧ z.length ≤ sizeLine ∧ Q (.int z.length) H
theorem x_lenS {z : Str} (h : z.length ≤ sizeLine) (k : Q (.int z.length) H) : rLenS [.str z] H Q := ⟨z, rfl, h, k⟩
def LenSetK (K : PySem.W.Frag) (x : V) (H1 : Hp) (Q : VK) : Prop := ∃ (l : Addr) (ns : List Int), x = .ref l ∧ SqL K H1 l (ns.map V.int) ∧ ns.length ≤ 1000 ∧ Q (.int (Ow.dis ns)) H1
theorem x_lenSet (k : ta σ H fun x H1 => LenSetK K x H1 Q) : Ow.tLenSetI K ta σ H Q := k
theorem x_lenSetK {ns : List Int} (h : H l = some (.lst (ns.map V.int))) (hl : ns.length ≤ 1000) (k : Q (.int (Ow.dis ns)) H) : LenSetK K (.ref l) H Q := ⟨l, ns, rfl, SqL.of h, hl, k⟩
end
section
variable {X : Cx}
theorem c_tupOf : CallR X (.type "tuple") (rTupOf X.K) := call_tuple_of
theorem c_lenS : CallR X (.builtin "len") rLenS := call_len_str
end
section
variable {H H1 : Hp} {b a : Addr} {K : PySem.W.Frag} {σ : L2.St} {Q : VK} {te : TE}
theorem NB.bls {bs : List Bool} : NB (.lst (bs.map V.bl)) := by
  cases bs with
  | nil => exact NB.len (by decide)
  | cons x xs => exact NB.at0b rfl
/-- a comprehension over zip(a text, a tuple of ints), by what one turn gives -/
theorem zip_gen {x : Str} {ys : List Int} {f : Nat → Int → V} {j1 j2 : Nat} {vs : List Nat} (hx : H1 b = some (.tup (ys.map V.int))) (hn : x.cps.size = ys.length) (h4 : ys.length ≤ 1000)
    (hnb : ∀ i, NB (.lst ((List.zipWith f x.cps.toList ys).take i))) (hw : ∀ u v, wipe (((wipe σ vs).set j1 (some u)).set j2 (some v)) vs = wipe σ vs)
    (hte : ∀ (i c : Nat) (y : Int) (H' : Hp) (Q' : VK), x.cps.toList[i]? = some c → ys[i]? = some y → Q' (f c y) H' → te (((wipe σ vs).set j1 (some (.str ⟨#[c]⟩))).set j2 (some (.int y))) H' Q')
    (k : ∀ p H2, Ex H1 H2 → H1 p = none → H2 p = some (.lst (List.zipWith f x.cps.toList ys)) → Q (.ref p) H2) :
    ZK K [.str x, .ref b] H1 fun J H2 => LcGo J (gTup K 2 (gCons (gName j1) (gCons (gName j2) gNil))) tYes te vs σ H2 Q := by
  have hz : (List.zipWith f x.cps.toList ys).length = ys.length := by rw [List.length_zipWith, Array.length_toList, hn, Nat.min_self]
  refine lc_zip (n := ys.length) (.inl ⟨hn, by rw [List.length_map]; exact Nat.le_refl _⟩) hx (fun i acc _ => acc = (List.zipWith f x.cps.toList ys).take i) (by rw [List.take_zero]) (fun _ _ _ _ _ h => h) (fun i acc _ h => ?_) hw (fun i c y acc H' hc hy e hI kk k1 k2 => ?_) (fun p zs H2 e hp hzs hI => ?_)
  · subst h
    refine ⟨hnb i, Nat.lt_of_le_of_lt (Nat.le_trans (List.length_take_le' _ _) (by rw [hz]; exact h4)) (by decide)⟩
  · rw [List.getElem?_map] at hy
    cases hy' : ys[i]? with
    | none => rw [hy'] at hy; cases hy
    | some n =>
      rw [hy'] at hy
      have en : V.int n = y := Option.some.inj hy
      subst en
      have hc' : x.cps.toList[i]? = some c := by simpa using hc
      refine x_yes (x_iteT (hte i c n H' _ hc' hy' (k1 _ _ (Ex.refl _) ?_)))
      rw [List.take_add_one, hI]
      congr 1
      rw [List.getElem?_zipWith, hc', hy']
      rfl
  · refine k p H2 e hp ?_
    rw [hzs, hI, ← hz, List.take_length]
theorem x_catT0 {xs : List V} (h : H a = some (.tup xs)) (h' : H b = some (.tup [])) (n1 : xs ≠ []) (l : xs.length ≤ sizeLine) (k : Q (.ref a) H) : rCatT K (.ref a) (.ref b) H Q := ⟨a, b, xs, [], rfl, rfl, SqT.of h, SqT.of h', n1, l, fun _ => k, fun e => absurd rfl e⟩
end
/-- a list without repetition has as many different ones as it is long -/
theorem step_new {ns : List Int} {v : Int} (h : v ∉ ns) : step_dedup ns v = ns ++ [v] := by
  unfold step_dedup
  rw [if_neg]
  intro e
  obtain ⟨x, hx, q⟩ := List.any_eq_true.mp e
  have : x = v := by simpa using q
  exact h (this ▸ hx)
theorem fold_new : ∀ (ns acc : List Int), (acc ++ ns).Nodup → ns.foldl step_dedup acc = acc ++ ns
  | [], acc, _ => (List.append_nil acc).symm
  | n :: ns, acc, h => by
    have h2 : n ∉ acc := fun q => by
      have := (List.nodup_append.mp h).2.2 n q n (by simp)
      exact this rfl
    rw [List.foldl_cons, step_new h2, fold_new ns (acc ++ [n]) (by rw [List.append_assoc]; exact h), List.append_assoc]
    rfl
theorem dis_nodup {ns : List Int} (h : ns.Nodup) : Ow.dis ns = ns.length := by
  unfold Ow.dis firstMet
  have e : (List.range ns.length).map (fun i => ns.getD i 0) = ns := by
    apply List.ext_getElem
    · simp
    · intro i h1 h2
      simp at h1
      simp [h1]
  rw [e, fold_new ns [] h, List.nil_append]
theorem x_lenSetN {H : Hp} {K : PySem.W.Frag} {Q : VK} {l : Addr} {ns m : List Int} (h : H l = some (.lst (ns.map V.int))) (pm : ns.Perm m) (nd : m.Nodup) (hl : m.length ≤ 1000) (k : Q (.int ns.length) H) : LenSetK K (.ref l) H Q :=
  x_lenSetK h (by rw [pm.length_eq]; exact hl) (by rw [dis_nodup (pm.nodup_iff.mpr nd)]; exact k)
end Sx

set_option Elab.async false
set_option linter.all false
set_option maxRecDepth 100000
set_option maxHeartbeats 2000000
namespace Ow
open PySem PySem.Spec PyProof.Rows L2 ItX

/-! ### promises of defs that are called where no repr is under way -/
structure FnG (P : Program) (w : World) (K : PySem.W.Frag) (mg : Str → Option Value) (base : Heap) (CX : CXT) (k : Nat) (f : Addr) (fd : FuncData) (ps : List Str) (sp : Sp) : Prop where
  same : ∀ vs H Q E, sp vs H Q E → vs.length = ps.length
  go : ∀ (A : Around) (outer : List Env) (s : Shared) (H : Hp) (args : Args) (us : List Value) (vs : List V) (Q : VK) (E : XK), A.guards = some [] → Room k A → Env0 P w K mg base A outer s H →
    BindsTo s fd args (ps.zip us) → Vals vs us → sp vs H Q E → codeAny (model P w) A (.call (.ref f) args) (CR CX outer P w H s Q E) s
section
variable {P : Program} {w : World} {K : PySem.W.Frag} {mg : Str → Option Value} {base : Heap} {CX : CXT} {k : Nat} {f : Addr} {fd : FuncData} {ps N : List Str} {sp : Sp} {x qual : Str} {st : Stmt}
theorem fnG_of (F : Fun K x qual st f fd) (S : FnScope N ps (defScope st)) (same : ∀ vs H Q E, sp vs H Q E → vs.length = ps.length)
    (body : ∀ (cdv : Value) (A : Around) (outer : List Env) (s : Shared) (H : Hp) (vs : List V) (Q : VK) (E : XK), A.guards = some [] → Room k (A.deeper (envOfC qual (defScope st) s.heap.objs.size f cdv)) → sp vs H Q E →
      ∃ t, PSs (cxOf CX0 P w K mg base N qual (defScope st) f cdv A outer s H E).nox (defBody st) t ∧ t { nx := fun _ H' => Q .non H', rt := Q } (start N vs) H) : FnG P w K mg base CX0 (k + 1) f fd ps sp :=
  ⟨same, fun A outer s H args us vs Q E hg hr e0 hb r h => fn_at F S (same _ _ _ _ h) hr e0 hb r fun cdv => by
    obtain ⟨t, p, q⟩ := body cdv A outer s H vs Q E hg (hr.deeper _) h
    exact ⟨t, p.nox, q⟩⟩
theorem FnG.up {j : Nat} (F : FnG P w K mg base CX j f fd ps sp) (h : j ≤ k) : FnG P w K mg base CX k f fd ps sp := ⟨F.same, fun A outer s H args us vs Q E hg hr => F.go A outer s H args us vs Q E hg (hr.mono h)⟩
theorem FnOk.g (F : FnOk P w K mg base CX k f fd ps sp) : FnG P w K mg base CX k f fd ps sp := ⟨F.len, fun A outer s H args us vs Q E _ => F.run A outer s H args us vs Q E⟩
end
section
variable {X : Cx} {CX : CXT} {k : Nat} {f : Addr} {fd : FuncData} {ps : List Str} {sp : Sp} {dvs : List V} {ds : List Value} {E : XK} {x : Str} {p pos : Pos} {e : Expr} {es : List Expr} {t : TA}
theorem go_fnG {pins : List (Addr × Obj)} {σ : L2.St} {H : Hp} {s : Shared} {Q : VK} {us : List Value} {vs : List V} (hG : X.A.guards = some []) (F : FnG X.prog X.w X.K X.mg X.base CX k f fd ps sp) (hr : Room k X.A) (hb : Binds X.K fd ps ds) (hd : Vals dvs ds)
    (hx : Passes CX X E) (I : Inv X pins σ H s) (r : Vals vs us) (h : sp (vs ++ dvs) H Q E) : wpAny (model X.prog X.w) X.A (call (.ref f) us) (EP X pins σ Q) X.xe s := by
  have both : Vals (vs ++ dvs) (us ++ ds) := r.append hd
  have bb := hb s us I.kIn (both.length.symm.trans (F.same _ _ _ _ h))
  refine wpAny_call (codeAny_mono (F.go X.A X.stack s H ⟨us, []⟩ _ _ Q E hG hr I.env0 bb both h) fun way sE z => ?_)
  match way, z with
  | .error er, z => exact hx pins σ H s er sE I z
  | .ok (.ret u), z => exact I.after z
theorem pe_callG (hG : X.A.guards = some []) (F : FnG X.prog X.w X.K X.mg X.base CX k f fd ps sp) (hr : Room k X.A) (hg : Gl X x) (hm : X.mg x = some (.ref f)) (hk : PySem.W.keepIn X.K (.ref f) = true) (hb : Binds X.K fd ps ds) (hd : Vals dvs ds) (hx : Passes CX X E)
    (ha : PA X (e :: es) t) (nd : (x == ("__debug__" : Str)) = false := by decide) (h1 : starEach (e :: es) X.env = (false, eval e X.env) :: starEach es X.env := by rfl) (h2 : (backTo pos (starEach es X.env)).any (·.1) = false := by rfl) :
    PE X (.Call (.Name x p) (e :: es) [] pos) (tCall sp dvs E t) := by
  constructor
  intro pins s σ H Q I h
  refine wpAny_Call_Name_kw (ld_glob I hg hm ?_ nd)
  have args := ha.run pos pins s σ H _ I h
  refine PySem.W.callWith_K (h₀ := X.base) I.ok.mod.kin hk (thn args ?_) h1 h2
  rintro us s1 ⟨vs, H1, I1, r1, q1⟩
  exact ⟨I1.kIn, go_fnG hG F hr hb hd hx I1 r1 q1⟩
/-! ### repr -/
structure Shw (d : PyData) : Prop where
  able : d.showable = true
  nodict : d.hasDict = false
  short : d.leavesShort 60 = true
  bulk : d.bulk ≤ 100000
  deep : d.depth ≤ 40
theorem Shw.fits {d : PyData} (h : Shw d) : d.shown.length ≤ sizeLine := by
  have a := PyData.shown_le_bulk 60 (by decide) d h.short
  have b := h.bulk
  exact Nat.le_trans a (Nat.le_trans (show _ ≤ 62 * 100000 + 60 by omega) (by decide))
def rRepr (K : PySem.W.Frag) : List V → Hp → VK → Prop := fun xs H Q => ∃ (v : V) (d : PyData), xs = [v] ∧ Dp K H v d ∧ Shw d ∧ Q (.str d.shown) H
theorem call_repr (hG : X.A.guards = some []) (hu : X.A.units + 64 < cLine) : CallR X (.builtin "repr") (rRepr X.K) := by
  rintro pins s σ H xs us Q I r ⟨v, d, rfl, hd, hs, q⟩
  obtain ⟨u, rfl, ru⟩ := vals1 r
  obtain ⟨as, rd⟩ := Dp.reads I d v u hd ru
  have sz := hs.fits
  have dp := hs.deep
  cases rd with
  | none => exact PySem.P.repr_of_none ⟨.str _, H, I.tok _, ⟨_, rfl⟩, by rw [PyData.shown_none] at q; exact q⟩
  | bool b => exact PySem.P.repr_of_bool ⟨.str _, H, I.tok _, ⟨_, rfl⟩, by rw [PyData.shown_bool] at q; exact q⟩
  | int i t => exact PySem.P.repr_of_int (by simpa [PyData.showable] using hs.able) ⟨.str _, H, I.tok _, ⟨_, rfl⟩, by rw [PyData.shown_int] at q; exact q⟩
  | str z t => exact PySem.P.repr_of_str ⟨.str _, H, I.tok _, ⟨_, rfl⟩, by rw [PyData.shown_str] at q; exact q⟩ (by rw [PyData.shown_str] at sz; exact sz)
  | list h1 h2 h3 h4 =>
    exact PySem.repr_of_reads' (.list h1 h2 h3 h4) hs.able (PyData.noDict_hsm hs.nodict) hG (by omega) (fun b o e => e) (fun h' u tk keep => ⟨.str _, H, I.kept keep, ⟨_, rfl⟩, q⟩) sz
  | tuple h1 h2 h3 h4 =>
    exact PySem.repr_of_reads' (.tuple h1 h2 h3 h4) hs.able (PyData.noDict_hsm hs.nodict) hG (by omega) (fun b o e => e) (fun h' u tk keep => ⟨.str _, H, I.kept keep, ⟨_, rfl⟩, q⟩) sz
  | dict h1 h2 h3 h4 h5 => cases hd
end
/-! ### the end of a law that shows data: it is called where no repr is under way -/
section
variable {P : Program} {w : World} {K : PySem.W.Frag} {mg mb : Str → Option Value} {k : Nat} {fa a : Addr} {fd : FuncData} {x : Str} {sp : Sp} {s : Shared} {vs : List Value} {ns : List Int}
/-- from an abstract heap H that tracks at most the script -/
theorem law_from {H : Hp} (KX : K.In s.heap) (hns : s.heap.Ns mainGlobals mg) (hb : s.heap.Ns builtinsNs mb) (hbb : ∀ x : Str, x ≠ "__name__" → mb x = bootBuiltins x) (lim : s.heap.NoLimit) (hg : s.gens = #[])
    (at_ : s.heap.get? a = some { cls := .type "list", data := .seq vs.toArray }) (hr : Room k callerA)
    (F : ∀ base : Heap, K.In base → base.Ns mainGlobals mg → FnG P w K mg base CX0 k fa fd [x] sp) (bind : ∀ (s : Shared) (u : Value), BindsTo s fd ⟨[u], []⟩ [(x, u)])
    (hsp : sp [.ref a] H (fun v _ => v = .bl true) fun _ _ _ => False) (ok : HOk P w H s.heap) (here : ∀ b, H b ≠ none → b = a) (frz : ∀ u, H a = some u → ∃ o xs, u = .frz o (.lst xs)) (out : H a ≠ none → K.lookup a = none) :
    codeAny (model P w) callerA (.call (.ref fa) ⟨[.ref a], []⟩) (fun r s' => r = .ok (.ret (.bool true)) ∧ OldK s.heap s'.heap ∧ s'.os = s.os ∧ AllBare s'.gens) s := by
  have away : ∀ {b : Addr}, b ≠ a → H b = none := fun {b} n => by
    cases e : H b with
    | none => rfl
    | some u => exact absurd (here b (by rw [e]; exact nofun)) n
  -- dicts, and what the module wrote, are not the script
  have dict : ∀ {b : Addr} {o : Obj} {es : Array DictEntry} {n : Nat}, s.heap.get? b = some o → o.data = .dict es n → H b = none := fun {b o es n} e d => away fun z => by
    rw [z, at_] at e
    cases e
    cases d
  have kin : ∀ {b : Addr} {o : Obj}, K.lookup b = some o → H b = none := fun {b o} e => by
    by_cases z : b = a
    · cases q : H a with
      | none => rw [z]; exact q
      | some u =>
        have := out (by rw [q]; exact nofun)
        rw [z, this] at e
        cases e
    · exact away z
  have KB : K.In (hidT s.heap H) := fun b o e => hidT_get (KX b o e) (kin e)
  have nsB : ∀ {b : Addr} {m : Str → Option Value}, s.heap.Ns b m → (hidT s.heap H).Ns b m := fun {b m} ⟨o, es, n, e, d, r⟩ => ⟨o, es, n, hidT_get e (dict e d), d, r⟩
  have md : Mod K mg (hidT s.heap H) := ⟨KB, nsB hns, ⟨mb, nsB hb, hbb⟩, by obtain ⟨mc, l1, l2⟩ := lim; exact ⟨mc, nsB l1, l2⟩⟩
  have env : Env0 P w K mg (hidT s.heap H) callerA [] s H := ⟨rfl, md, fun b o e => of_hidT e, by rw [hidT_size]; exact Nat.le_refl _, trivial, fun b z => (nomatch z), ok, .of_eq hg⟩
  refine codeAny_mono ((F _ KB (nsB hns)).go callerA [] s H ⟨[.ref a], []⟩ [.ref a] [.ref a] _ _ rfl hr env (bind s _) (.cons rfl .nil) hsp) fun way sE z => ?_
  match way, z with
  | .ok (.ret u), ⟨v, H', e1, e2, un, ok', rv, (q : v = .bl true)⟩ =>
    subst q
    cases rv
    refine ⟨rfl, OldK.of_keep fun b o e => ?_, e1, e2⟩
    by_cases z : H b = none
    · exact un.keep b o e z (fun m => nomatch m) (fun m => nomatch m)
    · obtain rfl := here b z
      cases q : H b with
      | none => exact absurd q z
      | some u =>
        obtain ⟨o', xs, rfl⟩ := frz u q
        have f1 := (ok b _ q).1
        rw [e] at f1
        cases f1
        exact (ok' b _ (un.frzs b _ _ q)).1
/-- the promise of the law's def at the heap behind the top -/
theorem law_goes (KX : K.In s.heap) (hns : s.heap.Ns mainGlobals mg) (hb : s.heap.Ns builtinsNs mb) (hbb : ∀ x : Str, x ≠ "__name__" → mb x = bootBuiltins x) (lim : s.heap.NoLimit) (hg : s.gens = #[])
    (at_ : s.heap.get? a = some { cls := .type "list", data := .seq vs.toArray }) (hin : IntsAre vs ns) (hl : ns.length ≤ sizeLine) (hr : Room k callerA)
    (F : ∀ base : Heap, K.In base → base.Ns mainGlobals mg → FnG P w K mg base CX0 k fa fd [x] sp) (bind : ∀ (s : Shared) (u : Value), BindsTo s fd ⟨[u], []⟩ [(x, u)])
    (hsp : ∀ H : Hp, SqL K H a (ns.map V.int) → sp [.ref a] H (fun v _ => v = .bl true) fun _ _ _ => False) :
    codeAny (model P w) callerA (.call (.ref fa) ⟨[.ref a], []⟩) (fun r s' => r = .ok (.ret (.bool true)) ∧ OldK s.heap s'.heap ∧ s'.os = s.os ∧ AllBare s'.gens) s := by
  have rv := vals_ints hin
  cases e : K.lookup a with
  | some o =>
    have e2 := (KX a o e).symm.trans at_
    cases e2
    have sq : SqL K (fun _ => none) a (ns.map V.int) := .inr ⟨_, vs.toArray, _, e, rfl, rfl, rfl, by rw [List.size_toArray, hin.length]; exact hl, rv⟩
    exact law_from (H := fun _ => none) KX hns hb hbb lim hg at_ hr F bind (hsp _ sq) (fun b u q => nomatch q) (fun b q => absurd rfl q) (fun u q => nomatch q) fun q => absurd rfl q
  | none =>
    have one : ∀ {b u}, (fun b => if b = a then some (HO.frz { cls := .type "list", data := .seq vs.toArray } (.lst (ns.map V.int))) else none : Hp) b = some u → b = a ∧ u = .frz { cls := .type "list", data := .seq vs.toArray } (.lst (ns.map V.int)) := fun {b u} q => by
      dsimp only at q
      split at q
      · next h => exact ⟨h, (Option.some.inj q).symm⟩
      · cases q
    refine law_from (H := fun b => if b = a then some (.frz { cls := .type "list", data := .seq vs.toArray } (.lst (ns.map V.int))) else none) KX hns hb hbb lim hg at_ hr F bind (hsp _ (.inl (.inr ⟨_, if_pos rfl⟩))) (fun b u q => ?_) (fun b q => ?_) (fun u q => ?_) fun _ => e
    · obtain ⟨rfl, rfl⟩ := one q
      exact ⟨at_, by rw [List.length_map]; exact hl, vs, _, rv, at_⟩
    · cases z : (fun b => if b = a then some (HO.frz { cls := .type "list", data := .seq vs.toArray } (.lst (ns.map V.int))) else none : Hp) b with
      | none => exact absurd z q
      | some u => exact (one z).1
    · exact ⟨_, _, (one q).2⟩
end
theorem walk_G {l : PySem.W.OpenLaw} {n k : Nat} {q : Program} {loose : List Str} {XP : (Str → Option Value) → Heap → Prop} {YP : World → Heap → Prop} {d : DefRec} {K : Params → PySem.W.Frag} {sp : PySem.W.Frag → Sp} {x : Str}
    (hn : l.most = some n) (small : n ≤ sizeLine) (hdf : d.params.defaults = []) (hr : Room k callerA) (hY : ∀ (w : World) (h : Heap), YP w h → (K w.params).In h)
    (F : ∀ (w : World) (mg : Str → Option Value) (fa : Addr) (h : Heap), (K w.params).In h → h.Ns mainGlobals mg → mg d.name = some (.ref fa) →
      ∃ fd : FuncData, (∀ (s : Shared) (u : Value), BindsTo s fd ⟨[u], []⟩ [(x, u)]) ∧ ∀ base : Heap, (K w.params).In base → base.Ns mainGlobals mg → FnG l.prog w (K w.params) mg base CX0 k fa fd [x] (sp (K w.params)))
    (hsp : ∀ (K : PySem.W.Frag) (H : Hp) (a : Addr) (ns : List Int), ns.length ≤ n → SqL K H a (ns.map V.int) → sp K [.ref a] H (fun v _ => v = .bl true) fun _ _ _ => False) :
    PySem.W.WalkO q loose XP YP l.row.toRowW d [] (fun f vs => PySem.call f vs) := by
  refine Att.attach_call hn hdf fun w s₀ s₁ mg mb fa o pm cd doc a vs ns G Y _ _ _ hmg at_ hin hlen hg => ?_
  obtain ⟨fd, bind, go⟩ := F w mg fa _ (hY w _ Y) G.T.g hmg
  exact law_goes (hY w _ Y) G.T.g G.T.b G.T.builtins G.T.nolimit hg at_ hin (Nat.le_trans hlen small) hr go bind fun H h => hsp _ H a ns hlen h
end Ow

set_option Elab.async false
set_option linter.all false
set_option maxRecDepth 100000
set_option maxHeartbeats 2000000
namespace Sx
open PySem PySem.Spec PyProof.Rows L2
section
variable {H H' H1 H2 : Hp} {p a b c l C dx : Addr} {o u : HO} {K : PySem.W.Frag} {σ : L2.St} {Q : VK} {v w : V} {D : Ends} {t : TT} {ta tb te tv : TE} {A B : Prop} {f : Str} {fs : List (Str × V)}
/-! ### repr -/
theorem x_repr {d : PyData} (h : Dp K H v d) (s : Ow.Shw d) (k : Q (.str d.shown) H) : Ow.rRepr K [v] H Q := ⟨v, d, rfl, h, s, k⟩
/-! ### fields -/
def FldK (K : PySem.W.Frag) (f : Str) (x : V) (H1 : Hp) (Q : VK) : Prop := ∃ a C dx fs v, x = .ref a ∧ H1 a = some (.ins C dx fs) ∧ Cls K C ∧ NoAttr K C f ∧ fs.lookup f = some v ∧ Q v H1
theorem x_fld (k : ta σ H fun x H1 => FldK K f x H1 Q) : tFld K ta f σ H Q := k
theorem x_fldK (h : H a = some (.ins C dx fs)) (c : Cls K C) (n : NoAttr K C f) (l : fs.lookup f = some v) (k : Q v H) : FldK K f (.ref a) H Q := ⟨a, C, dx, fs, v, rfl, h, c, n, l, k⟩
def SetK (K : PySem.W.Frag) (f : Str) (y x : V) (H2 : Hp) (R : Hp → Prop) : Prop := ∃ a C dx fs, x = .ref a ∧ H2 a = some (.ins C dx fs) ∧ Cls K C ∧ NoAttr K C f ∧ fs.length < 1000 ∧ R (upd H2 a (.ins C dx (putF f y fs)))
theorem x_setF (k : tv σ H fun y H1 => ta σ H1 fun x H2 => SetK K f y x H2 fun H3 => D.nx σ H3) : sFld K ta tv f D σ H := k
theorem x_setK {y : V} {R : Hp → Prop} (h : H a = some (.ins C dx fs)) (c : Cls K C) (n : NoAttr K C f) (l : fs.length < 1000) (k : R (upd H a (.ins C dx (putF f y fs)))) : SetK K f y (.ref a) H R := ⟨a, C, dx, fs, rfl, h, c, n, l, k⟩
/-! ### a new instance -/
theorem x_make {sp : Sp} {E : XK} {ts : TA} (k : ts σ H fun vs H1 => ∀ x dx, H1 x = none → H1 dx = none → dx ≠ x → sp (.ref x :: vs) (upd (upd H1 dx (.own x)) x (.ins C dx [])) (fun v H2 => v = .non ∧ Q (.ref x) H2) E) : tMake C sp [] E ts σ H Q := by
  show ts σ H fun vs H1 => ∀ x dx, H1 x = none → H1 dx = none → dx ≠ x → sp (.ref x :: (vs ++ [])) (upd (upd H1 dx (.own x)) x (.ins C dx [])) (fun v H2 => v = .non ∧ Q (.ref x) H2) E
  have e : (fun (vs : List V) (H1 : Hp) => ∀ x dx, H1 x = none → H1 dx = none → dx ≠ x → sp (.ref x :: (vs ++ [])) (upd (upd H1 dx (.own x)) x (.ins C dx [])) (fun v H2 => v = .non ∧ Q (.ref x) H2) E) = fun vs H1 => ∀ x dx, H1 x = none → H1 dx = none → dx ≠ x → sp (.ref x :: vs) (upd (upd H1 dx (.own x)) x (.ins C dx [])) (fun v H2 => v = .non ∧ Q (.ref x) H2) E := by
    funext vs H1
    rw [List.append_nil]
  rw [e]
  exact k
/-! ### dicts, numbers, texts -/
theorem x_dict0 (k : JustNew (.dK []) H Q) : tDNewK σ H Q := k
theorem x_pow {i j : Int} (c : CPow i j) (k : Q (.int (i ^ j.toNat)) H) : rI CPow (fun i j => .int (i ^ j.toNat)) (.int i) (.int j) H Q := ⟨i, j, rfl, rfl, c, k⟩
/-- text * int -/
def rMulS : R2 := fun x y H Q => ∃ (z : Str) (i : Int), x = .str z ∧ y = .int i ∧ z.length ≤ 16 ∧ 0 ≤ i ∧ i ≤ 1048576 ∧ ∀ q : Str, Q (.str q) H
theorem x_mulS {z : Str} {i : Int} (h : z.length ≤ 16) (h0 : 0 ≤ i) (h1 : i ≤ 1048576) (k : ∀ q : Str, Q (.str q) H) : rMulS (.str z) (.int i) H Q := ⟨z, i, rfl, rfl, h, h0, h1, k⟩
end
section
variable {X : Cx}
theorem op_mulS : OpR X (binaryOp .Mult) rMulS := by
  intro pins s σ H x y v u Q I rx ry h
  obtain ⟨z, i, rfl, rfl, hz, h0, h1, q⟩ := h
  obtain ⟨t, rfl⟩ := rx
  obtain ⟨t', rfl⟩ := ry
  exact PySem.W.KXi.mul rfl hz (by omega) h1 fun t2 k _ _ => ⟨.str _, H, I.tok _, ⟨_, rfl⟩, q _⟩
end
/-! ### things of any kind -/
/-- what an own class's instances want for isinstance -/
structure ClsT (K : PySem.W.Frag) (C : Addr) : Prop where
  cl : Cls K C
  ha : PySem.W.findIn K (.ref C) "__class__" = some (some (.builtin "object.__class__"))
  hn : PySem.W.specialIn K (.builtin "object.__class__") "__get__" = some (some (.builtin "getset_descriptor.__get__"))
  htk : PySem.W.takesIn K (.builtin "object.__class__") = some true
  hm : PySem.W.mroIn K C (.type "object") = some true
  kI : PySem.W.kitOne K (.ref C) (.type "int") = some false
  kB : PySem.W.kitOne K (.ref C) (.type "bool") = some false
  kT : PySem.W.kitOne K (.ref C) (.type "tuple") = some false
  kL : PySem.W.kitOne K (.ref C) (.type "list") = some false
  kD : PySem.W.kitOne K (.ref C) (.type "dict") = some false
  kS : PySem.W.kitOne K (.ref C) (.type "str") = some false
inductive Thing (K : PySem.W.Frag) (H : Hp) : V → Prop where
  | int (i : Int) : Thing K H (.int i)
  | bl (b : Bool) : Thing K H (.bl b)
  | non : Thing K H .non
  | str (z : Str) : Thing K H (.str z)
  | lst {a : Addr} {xs : List V} (e : H a = some (.lst xs)) (n : NB (.lst xs)) : Thing K H (.ref a)
  | tup {a : Addr} {xs : List V} (e : H a = some (.tup xs)) : Thing K H (.ref a)
  | dK {a : Addr} {kvs : List (Key × V)} (e : H a = some (.dK kvs)) : Thing K H (.ref a)
  | ins {a C dx : Addr} {fs : List (Str × V)} (e : H a = some (.ins C dx fs)) (c : ClsT K C) : Thing K H (.ref a)
theorem NB.dK {kvs : List (Key × V)} : NB (.dK kvs) := fun _ _ _ _ h => nomatch h
section
variable {H H1 : Hp} {K : PySem.W.Frag} {v : V} {Q : VK}
theorem Thing.mono (h : Thing K H v) (e : Ex H H1) : Thing K H1 v := by
  cases h with
  | int i => exact .int i
  | bl b => exact .bl b
  | non => exact .non
  | str z => exact .str z
  | lst h n => exact .lst (e.kp _ _ h n) n
  | tup h => exact .tup (e.kp _ _ h NB.tup)
  | dK h => exact .dK (e.kp _ _ h NB.dK)
  | ins h c => exact .ins (e.kp _ _ h NB.ins) c
/-- the type of a thing and what isinstance tells of it -/
structure Kinds (K : PySem.W.Frag) (H : Hp) (v : V) (bI bB bT bL bS bD : Bool) : Prop where
  ex : ∃ t, TyX K H v t ∧ PySem.W.kitOne K t (.type "int") = some bI ∧ PySem.W.kitOne K t (.type "bool") = some bB ∧ PySem.W.kitOne K t (.type "tuple") = some bT ∧ PySem.W.kitOne K t (.type "list") = some bL ∧ PySem.W.kitOne K t (.type "str") = some bS ∧ PySem.W.kitOne K t (.type "dict") = some bD
def isBl : V → Bool
  | .bl _ => true
  | _ => false
def isStr : V → Bool
  | .str _ => true
  | _ => false
theorem Kinds.int {i : Int} : Kinds K H (.int i) true false false false false false := ⟨_, .base (.int i), kit_ty (by decide +kernel), kit_ty (by decide +kernel), kit_ty (by decide +kernel), kit_ty (by decide +kernel), kit_ty (by decide +kernel), kit_ty (by decide +kernel)⟩
theorem Kinds.bl {i : Bool} : Kinds K H (.bl i) true true false false false false := ⟨_, .base (.bl i), kit_ty (by decide +kernel), kit_ty (by decide +kernel), kit_ty (by decide +kernel), kit_ty (by decide +kernel), kit_ty (by decide +kernel), kit_ty (by decide +kernel)⟩
theorem Kinds.non : Kinds K H .non false false false false false false := ⟨_, .base .non, kit_ty (by decide +kernel), kit_ty (by decide +kernel), kit_ty (by decide +kernel), kit_ty (by decide +kernel), kit_ty (by decide +kernel), kit_ty (by decide +kernel)⟩
theorem Kinds.str {z : Str} : Kinds K H (.str z) false false false false true false := ⟨_, .base (.str z), kit_ty (by decide +kernel), kit_ty (by decide +kernel), kit_ty (by decide +kernel), kit_ty (by decide +kernel), kit_ty (by decide +kernel), kit_ty (by decide +kernel)⟩
theorem Kinds.lst {a : Addr} {xs : List V} (e : H a = some (.lst xs)) : Kinds K H (.ref a) false false false true false false := ⟨_, .base (.lst e), kit_ty (by decide +kernel), kit_ty (by decide +kernel), kit_ty (by decide +kernel), kit_ty (by decide +kernel), kit_ty (by decide +kernel), kit_ty (by decide +kernel)⟩
theorem Kinds.tup {a : Addr} {xs : List V} (e : H a = some (.tup xs)) : Kinds K H (.ref a) false false true false false false := ⟨_, .base (.tup e), kit_ty (by decide +kernel), kit_ty (by decide +kernel), kit_ty (by decide +kernel), kit_ty (by decide +kernel), kit_ty (by decide +kernel), kit_ty (by decide +kernel)⟩
theorem Kinds.dK {a : Addr} {xs : List (Key × V)} (e : H a = some (.dK xs)) : Kinds K H (.ref a) false false false false false true := ⟨_, .base (.dK e), kit_ty (by decide +kernel), kit_ty (by decide +kernel), kit_ty (by decide +kernel), kit_ty (by decide +kernel), kit_ty (by decide +kernel), kit_ty (by decide +kernel)⟩
theorem Kinds.ins {a C dx : Addr} {fs : List (Str × V)} (e : H a = some (.ins C dx fs)) (c : ClsT K C) : Kinds K H (.ref a) false false false false false false := ⟨_, .base (.ins e c.cl c.ha c.hn c.htk c.hm), c.kI, c.kB, c.kT, c.kL, c.kS, c.kD⟩
theorem Thing.kinds (h : Thing K H v) : ∃ bT bL bD, Kinds K H v (isI v || isBl v) (isBl v) bT bL (isStr v) bD := by
  cases h with
  | int i => exact ⟨_, _, _, Kinds.int⟩
  | bl b => exact ⟨_, _, _, Kinds.bl⟩
  | non => exact ⟨_, _, _, Kinds.non⟩
  | str z => exact ⟨_, _, _, Kinds.str⟩
  | lst h n => exact ⟨_, _, _, Kinds.lst h⟩
  | tup h => exact ⟨_, _, _, Kinds.tup h⟩
  | dK h => exact ⟨_, _, _, Kinds.dK h⟩
  | ins h c => exact ⟨_, _, _, Kinds.ins h c⟩
theorem x_isiInt {bI bB bT bL bS bD : Bool} (h : Kinds K H v bI bB bT bL bS bD) (k : Q (.bl bI) H) : rIsi K [v, .ty "int"] H Q := let ⟨t, ty, e, _⟩ := h.ex; ⟨_, _, t, _, _, rfl, .ty _, ty, e, k⟩
theorem x_isiBool {bI bB bT bL bS bD : Bool} (h : Kinds K H v bI bB bT bL bS bD) (k : Q (.bl bB) H) : rIsi K [v, .ty "bool"] H Q := let ⟨t, ty, _, e, _⟩ := h.ex; ⟨_, _, t, _, _, rfl, .ty _, ty, e, k⟩
theorem x_isiTup {bI bB bT bL bS bD : Bool} (h : Kinds K H v bI bB bT bL bS bD) (k : Q (.bl bT) H) : rIsi K [v, .ty "tuple"] H Q := let ⟨t, ty, _, _, e, _⟩ := h.ex; ⟨_, _, t, _, _, rfl, .ty _, ty, e, k⟩
theorem x_isiLst {bI bB bT bL bS bD : Bool} (h : Kinds K H v bI bB bT bL bS bD) (k : Q (.bl bL) H) : rIsi K [v, .ty "list"] H Q := let ⟨t, ty, _, _, _, e, _⟩ := h.ex; ⟨_, _, t, _, _, rfl, .ty _, ty, e, k⟩
theorem x_isiStr {bI bB bT bL bS bD : Bool} (h : Kinds K H v bI bB bT bL bS bD) (k : Q (.bl bS) H) : rIsi K [v, .ty "str"] H Q := let ⟨t, ty, _, _, _, _, e, _⟩ := h.ex; ⟨_, _, t, _, _, rfl, .ty _, ty, e, k⟩
theorem x_isiDct {bI bB bT bL bS bD : Bool} (h : Kinds K H v bI bB bT bL bS bD) (k : Q (.bl bD) H) : rIsi K [v, .ty "dict"] H Q := let ⟨t, ty, _, _, _, _, _, e⟩ := h.ex; ⟨_, _, t, _, _, rfl, .ty _, ty, e, k⟩
end
/-! ### shown data -/
theorem shw_mk {d : PyData} (h : d.showable = true) (h1 : d.hasDict = false) (h2 : d.leavesShort 60 = true) (h3 : d.bulk ≤ 100000) (h4 : d.depth ≤ 40) : Ow.Shw d := ⟨h, h1, h2, h3, h4⟩
section
variable {H : Hp} {K : PySem.W.Frag} {a : Addr}
theorem dpAll_bls : ∀ bs : List Bool, DpAll K H (bs.map V.bl) (bs.map PyData.bool)
  | [] => .nil
  | b :: bs => .cons (.bl b) (dpAll_bls bs)
theorem dp_bls {bs : List Bool} (h : H a = some (.lst (bs.map V.bl))) : Dp K H (.ref a) (.list (bs.map PyData.bool)) := .lst (SqL.of h) (dpAll_bls bs)
end
theorem bls_show : ∀ bs : List Bool, PyData.showableAll (bs.map PyData.bool) = true ∧ PyData.hasDictAll (bs.map PyData.bool) = false ∧ PyData.leavesShortAll 60 (bs.map PyData.bool) = true ∧ PyData.depthAll (bs.map PyData.bool) = 0
  | [] => ⟨rfl, rfl, rfl, rfl⟩
  | b :: bs => by
    obtain ⟨h1, h2, h3, h4⟩ := bls_show bs
    refine ⟨?_, ?_, ?_, ?_⟩ <;> simp [PyData.showableAll, PyData.hasDictAll, PyData.leavesShortAll, PyData.depthAll, PyData.showable, PyData.hasDict, PyData.leavesShort, PyData.depth, h1, h2, h3, h4]
theorem bls_bulk : ∀ bs : List Bool, PyData.bulkAll (bs.map PyData.bool) ≤ 10 * bs.length
  | [] => Nat.le_refl _
  | b :: bs => by
    have := bls_bulk bs
    simp only [List.map_cons, PyData.bulkAll, PyData.bulk, List.length_cons]
    omega
theorem shw_bls {bs : List Bool} (h : bs.length ≤ 1000) : Ow.Shw (.list (bs.map PyData.bool)) := by
  obtain ⟨h1, h2, h3, h4⟩ := bls_show bs
  have h5 := bls_bulk bs
  refine ⟨?_, ?_, ?_, ?_, ?_⟩
  · simpa [PyData.showable] using h1
  · simpa [PyData.hasDict] using h2
  · simpa [PyData.leavesShort] using h3
  · simp only [PyData.bulk]
    omega
  · simp only [PyData.depth, h4]
    omega
end Sx

set_option Elab.async false
set_option linter.all false
set_option maxRecDepth 100000
set_option maxHeartbeats 2000000
namespace Sx
open PySem PySem.Spec PyProof.Rows L2 StrLaws
section
variable {H H' H1 H2 : Hp} {p a b c l C dx : Addr} {o u : HO} {K : PySem.W.Frag} {σ : L2.St} {Q : VK} {v w : V} {D : Ends} {t : TT} {ta tb te tv : TE} {A B : Prop}
/-! ### loops over tuples -/
def TK (K : PySem.W.Frag) (x : V) (H1 : Hp) (R : It → Hp → Prop) : Prop := ∃ a, x = .ref a ∧ (∃ xs, SqT K H1 a xs) ∧ R (Itt K a) H1
theorem x_iT {R : It → Hp → Prop} (k : ta σ H fun x H1 => TK K x H1 R) : iTup K ta σ H R := k
theorem for_tupl {xs : List V} {j : Nat} {tb : TS} (hx : H1 a = some (.tup xs)) (Pv : Nat → L2.St → Hp → Prop) (h0 : Pv 0 σ H1) (hl : ∀ i σ H, i ≤ xs.length → Pv i σ H → H a = some (.tup xs))
    (hs : ∀ (i : Nat) x σ H, xs[i]? = some x → Pv i σ H → tb { D with nx := Pv (i + 1), ct := Pv (i + 1), bk := D.nx } (σ.set j (some x)) H) (hd : ∀ σ H, Pv xs.length σ H → D.nx σ H) : TK K (.ref a) H1 fun J H2 => ForGo J (gName j) tb D σ H2 :=
  ⟨a, rfl, ⟨xs, SqT.of hx⟩, for_tup Pv h0 (fun i σ H hi q => SqT.of (hl i σ H hi q)) (fun i x σ H h q => hs i x σ H h q) hd⟩
theorem lc_tup {xs : List V} {j : Nat} {vs : List Nat} (hx : H1 a = some (.tup xs)) (I : Nat → List V → Hp → Prop) (h0 : I 0 [] H1) (mono : ∀ i acc H H', Tx H H' → I i acc H → I i acc H') (nb : ∀ i acc H, I i acc H → NB (.lst acc) ∧ acc.length < sizeLine)
    (hw : ∀ x, wipe ((wipe σ vs).set j (some x)) vs = wipe σ vs)
    (turn : ∀ (i : Nat) x acc H', xs[i]? = some x → Ex H1 H' → I i acc H' → ∀ kk : Option V → Hp → Prop, (∀ y H4, Ex H' H4 → I (i + 1) (acc ++ [y]) H4 → kk (some y) H4) → (∀ H4, Ex H' H4 → I (i + 1) acc H4 → kk none H4) →
      t ((wipe σ vs).set j (some x)) H' fun b H3 => if b = true then te ((wipe σ vs).set j (some x)) H3 (fun y H4 => kk (some y) H4) else kk none H3)
    (k : ∀ p ys H2, Ex H1 H2 → H1 p = none → H2 p = some (.lst ys) → I xs.length ys H2 → Q (.ref p) H2) : TK K (.ref a) H1 fun J H2 => LcGo J (gName j) t te vs σ H2 Q := by
  have hq : ∀ H', Ex H1 H' → SqT K H' a xs := fun H' e => SqT.of (e.kp _ _ hx NB.tup)
  refine ⟨a, rfl, ⟨xs, SqT.of hx⟩, lc_any (n := xs.length) I h0 mono nb (fun i H' hi e => ⟨xs, xs[i], hq H' e, by simp [hi]⟩) (fun H' e => ⟨xs, hq H' e, Nat.le_refl _⟩) (fun i acc x H' H'' hi e q y kk k1 k2 => ?_) k⟩
  obtain ⟨rfl, y⟩ := y
  exact ⟨hw _, turn i x acc _ (y xs (hq _ e)) e q kk k1 k2⟩
theorem x_inI {n : Int} (ns : List Int) (h : H p = some (.tup (ns.map V.int))) (k : Q (.bl (decide (n ∈ ns))) H) : rIn K false (.int n) (.ref p) H Q := ⟨p, _, rfl, .inr (SqT.of h), rfl, flat_ints, by rw [if_neg Bool.false_ne_true, inV_ints]; exact k⟩
theorem x_NeIf {i j : Int} (h : i = j) (k : Q (.bl false) H) : rNe (.int i) (.int j) H Q := x_NeI (by rw [decide_eq_true h]; exact k)
theorem x_EqIt {i j : Int} (h : i = j) (k : Q (.bl true) H) : rEq (.int i) (.int j) H Q := x_EqI (by rw [decide_eq_true h]; exact k)
theorem x_powE {i j n : Int} (c : CPow i j) (e : i ^ j.toNat = n) (k : Q (.int n) H) : rI CPow (fun i j => .int (i ^ j.toNat)) (.int i) (.int j) H Q := x_pow c (by rw [e]; exact k)
/-! ### a dict of one pair -/
def DispK (H : Hp) (p : Addr) (ps : List (V × V)) (H2 : Hp) (Q : VK) : Prop := H2 p = some (.dK []) ∧ ∃ kvs : List (Key × V), ps = kvs.map (fun kv => (kV kv.1, kv.2)) ∧ kvs.length ≤ 15 ∧ Q (.ref p) (upd H2 p (.dK (mergeK [] kvs)))
theorem x_disp1 {tk tv : TE} (k : ∀ p H0, Ex H H0 → H p = none → H0 p = some (.dK []) → tk σ H0 fun x H1 => tv σ H1 fun y H2 => DispK H p [(x, y)] H2 Q) : tDisp [(tk, tv)] σ H Q := fun p hp => k p _ (Ex.new hp) hp upd_same
theorem x_dispI {i : Int} {y : V} (h : H2 p = some (.dK [])) (hp : H p = none) (e : Ex H H2) (k : ∀ H3, Ex H H3 → H3 p = some (.dK [(Sum.inl i, y)]) → Q (.ref p) H3) : DispK H p [(.int i, y)] H2 Q := ⟨h, [(Sum.inl i, y)], rfl, (by show 1 ≤ 15; decide), k _ (Ex.mut e hp) upd_same⟩
theorem x_dispS {i : Str} {y : V} (h : H2 p = some (.dK [])) (hp : H p = none) (e : Ex H H2) (k : ∀ H3, Ex H H3 → H3 p = some (.dK [(Sum.inr i, y)]) → Q (.ref p) H3) : DispK H p [(.str i, y)] H2 Q := ⟨h, [(Sum.inr i, y)], rfl, (by show 1 ≤ 15; decide), k _ (Ex.mut e hp) upd_same⟩
/-! ### things that are tuples or none -/
theorem Thing.tupOr (t : Thing K H v) : (∃ p xs, v = .ref p ∧ H p = some (.tup xs)) ∨ (∃ bI bB bL bS bD, Kinds K H v bI bB false bL bS bD) ∧ ∀ p xs, v = .ref p → H p ≠ some (.tup xs) := by
  cases t with
  | int i => exact .inr ⟨⟨_, _, _, _, _, Kinds.int⟩, fun p xs e => by cases e⟩
  | bl b => exact .inr ⟨⟨_, _, _, _, _, Kinds.bl⟩, fun p xs e => by cases e⟩
  | non => exact .inr ⟨⟨_, _, _, _, _, Kinds.non⟩, fun p xs e => by cases e⟩
  | str z => exact .inr ⟨⟨_, _, _, _, _, Kinds.str⟩, fun p xs e => by cases e⟩
  | lst h n => exact .inr ⟨⟨_, _, _, _, _, Kinds.lst h⟩, fun p xs e q => by cases e; rw [h] at q; cases q⟩
  | tup h => exact .inl ⟨_, _, rfl, h⟩
  | dK h => exact .inr ⟨⟨_, _, _, _, _, Kinds.dK h⟩, fun p xs e q => by cases e; rw [h] at q; cases q⟩
  | ins h c => exact .inr ⟨⟨_, _, _, _, _, Kinds.ins h c⟩, fun p xs e q => by cases e; rw [h] at q; cases q⟩
/-- a thing, and so are its items if it is a tuple -/
structure Deep (K : PySem.W.Frag) (H : Hp) (v : V) : Prop where
  th : Thing K H v
  it : ∀ p xs, v = .ref p → H p = some (.tup xs) → ∀ x ∈ xs, Thing K H x
theorem Deep.flat (t : Thing K H v) (n : ∀ p xs, v = .ref p → H p ≠ some (.tup xs)) : Deep K H v := ⟨t, fun p xs e h => absurd h (n p xs e)⟩
theorem Deep.tup {xs : List V} (h : H a = some (.tup xs)) (t : ∀ x ∈ xs, Thing K H x) : Deep K H (.ref a) := ⟨.tup h, fun p ys e q => by
  cases e
  rw [h] at q
  cases q
  exact t⟩
theorem Deep.mono (d : Deep K H v) (e : Ex H H1) : Deep K H1 v := by
  refine ⟨d.th.mono e, fun p xs ev h x hx => ?_⟩
  rcases d.th.tupOr with ⟨p', ys, e1, h1⟩ | ⟨_, no⟩
  · subst ev
    cases e1
    have h2 := e.kp _ _ h1 NB.tup
    rw [h] at h2
    cases h2
    exact (d.it _ _ rfl h1 x hx).mono e
  · subst ev
    have g := d.th
    cases g with
    | lst q n => have := e.kp _ _ q n; rw [h] at this; cases this
    | tup q => exact absurd q (no _ _ rfl)
    | dK q => have := e.kp _ _ q NB.dK; rw [h] at this; cases this
    | ins q c => have := e.kp _ _ q NB.ins; rw [h] at this; cases this
end
/-! ### shown numbers -/
theorem log2_small {n : Nat} (h : n < 10 ^ 59) : n.log2 < 1920 := by
  by_cases h0 : n = 0
  · subst h0; decide
  · rw [Nat.log2_lt h0]
    exact Nat.lt_of_lt_of_le h (Nat.le_trans (show 10 ^ 59 ≤ 2 ^ 200 by decide) (Nat.pow_le_pow_right (by decide) (by decide)))
theorem int_short {i : Int} (h : i.natAbs < 10 ^ 59) : PyData.leavesShort 60 (.int i) = true := by
  simp only [PyData.leavesShort, decide_eq_true_eq]
  have e := int_text_length_le10 (k := 59) (by decide) h
  show (Str.ofString (toString i)).length ≤ 60
  rw [PySem.ofString_length]
  exact e
theorem int_shows {i : Int} (h : i.natAbs < 10 ^ 59) : PyData.showable (.int i) = true := by
  simp only [PyData.showable, decide_eq_true_eq]
  exact log2_small h
theorem shw_int {i : Int} (h : i.natAbs < 10 ^ 59) : Ow.Shw (.int i) := ⟨int_shows h, rfl, int_short h, by simp [PyData.bulk], by simp [PyData.depth]⟩
theorem shw_tup2 {i j : Int} (h : i.natAbs < 10 ^ 59) (h2 : j.natAbs < 10 ^ 59) : Ow.Shw (.tuple [.int i, .int j]) := by
  refine ⟨?_, ?_, ?_, ?_, ?_⟩
  · simp only [PyData.showable, PyData.showableAll, Bool.and_eq_true, and_true]
    exact ⟨by simpa [PyData.showable] using int_shows h, by simpa [PyData.showable] using int_shows h2⟩
  · rfl
  · simp only [PyData.leavesShort, PyData.leavesShortAll, Bool.and_eq_true, and_true]
    exact ⟨by simpa [PyData.leavesShort] using int_short h, by simpa [PyData.leavesShort] using int_short h2⟩
  · simp [PyData.bulk, PyData.bulkAll]
  · simp [PyData.depth, PyData.depthAll]
end Sx

set_option Elab.async false
set_option linter.all false
set_option maxRecDepth 100000
set_option maxHeartbeats 2000000
namespace Sx
open PySem PySem.Spec PyProof.Rows L2
section
variable {H H' H1 H2 : Hp} {p a b c l C dx : Addr} {o u : HO} {K : PySem.W.Frag} {σ : L2.St} {Q : VK} {v w : V} {D : Ends} {t : TT} {ta tb te tv tx ty td : TE} {A B : Prop} {i j : Int} {xs ys : List V}
/-! ### min, max, list, index -/
def rMin2 : List V → Hp → VK → Prop := fun xs H Q => ∃ i j, xs = [.int i, .int j] ∧ Q (.int (if j < i then j else i)) H
def rMax2 : List V → Hp → VK → Prop := fun xs H Q => ∃ i j, xs = [.int i, .int j] ∧ Q (.int (if j > i then j else i)) H
theorem x_min2 (k : Q (.int (if j < i then j else i)) H) : rMin2 [.int i, .int j] H Q := ⟨i, j, rfl, k⟩
theorem x_max2 (k : Q (.int (if j > i then j else i)) H) : rMax2 [.int i, .int j] H Q := ⟨i, j, rfl, k⟩
def rListOf (K : PySem.W.Frag) : List V → Hp → VK → Prop := fun xs H Q => ∃ p ys, xs = [.ref p] ∧ (SqL K H p ys ∨ SqT K H p ys) ∧ JustNew (.lst ys) H Q
theorem x_listOfT (h : H p = some (.tup xs)) (k : JustNew (.lst xs) H Q) : rListOf K [.ref p] H Q := ⟨p, xs, rfl, .inr (SqT.of h), k⟩
theorem x_listOfL (h : H p = some (.lst xs)) (k : JustNew (.lst xs) H Q) : rListOf K [.ref p] H Q := ⟨p, xs, rfl, .inl (SqL.of h), k⟩
def rTupIdx (K : PySem.W.Frag) : V → List V → Hp → VK → Prop := fun x xs H Q => ∃ (p : Addr) (ns : List Int) (n : Int) (j : Nat), x = .ref p ∧ xs = [.int n] ∧ SqT K H p (ns.map V.int) ∧ ns[j]? = some n ∧ (∀ m, m < j → ns[m]? ≠ some n) ∧ Q (.int (j : Nat)) H
theorem x_tupIdx {ns : List Int} {n : Int} (j : Nat) (h : H p = some (.tup (ns.map V.int))) (hj : ns[j]? = some n) (no : ∀ m, m < j → ns[m]? ≠ some n) (k : Q (.int (j : Nat)) H) : rTupIdx K (.ref p) [.int n] H Q := ⟨p, ns, n, j, rfl, rfl, SqT.of h, hj, no, k⟩
/-! ### tuples joined and cut, any -/
theorem x_catA (h : H a = some (.tup xs)) (h' : H b = some (.tup ys)) (l : xs.length + ys.length ≤ sizeLine) (k : ∀ p H1, Ex H H1 → H1 p = some (.tup (xs ++ ys)) → Q (.ref p) H1) : rCatA K (.ref a) (.ref b) H Q := by
  refine ⟨a, b, xs, ys, rfl, rfl, SqT.of h, SqT.of h', l, fun e => ?_, fun _ e => ?_, fun _ _ p hp => k p _ (Ex.new hp) upd_same⟩
  · exact k b H (Ex.refl H) (by rw [h', e]; rfl)
  · exact k a H (Ex.refl H) (by rw [h, e, List.append_nil])
theorem x_slA {lo hi : Option Int} (h : H a = some (.tup xs)) (k : ∀ p H1, Ex H H1 → H1 p = some (.tup (cutV xs lo hi)) → Q (.ref p) H1) : rSlA K (.ref a) lo hi H Q := by
  refine ⟨a, xs, rfl, SqT.of h, fun e => ?_, fun _ p hp => k p _ (Ex.new hp) upd_same⟩
  refine k a H (Ex.refl H) ?_
  rw [h]
  unfold cutV
  rw [e.1, e.2, List.drop_zero, Nat.sub_zero, List.take_length]
/-! ### a dict of four pairs, and get -/
theorem x_disp4 {k1 v1 k2 v2 k3 v3 k4 v4 : TE} (k : ∀ p H0, Ex H H0 → H p = none → H0 p = some (.dK []) → k1 σ H0 fun x1 H1 => v1 σ H1 fun y1 H1 => k2 σ H1 fun x2 H1 => v2 σ H1 fun y2 H1 => k3 σ H1 fun x3 H1 => v3 σ H1 fun y3 H1 => k4 σ H1 fun x4 H1 => v4 σ H1 fun y4 H1 => DispK H p [(x1, y1), (x2, y2), (x3, y3), (x4, y4)] H1 Q) :
    tDisp [(k1, v1), (k2, v2), (k3, v3), (k4, v4)] σ H Q := fun p hp => k p _ (Ex.new hp) hp upd_same
theorem merge4 {z1 z2 z3 z4 : Str} {y1 y2 y3 y4 : V} (h : ([z1, z2, z3, z4] : List Str).Nodup) : mergeK [] [((Sum.inr z1 : Key), y1), (Sum.inr z2, y2), (Sum.inr z3, y3), (Sum.inr z4, y4)] = [(Sum.inr z1, y1), (Sum.inr z2, y2), (Sum.inr z3, y3), (Sum.inr z4, y4)] := by
  simp only [List.nodup_cons, List.mem_cons, List.not_mem_nil, or_false, not_or, not_false_eq_true, List.nodup_nil, and_true] at h
  obtain ⟨⟨n12, n13, n14⟩, ⟨n23, n24⟩, n34⟩ := h
  simp [mergeK, putK, n12, n13, n14, n23, n24, n34]
theorem x_disp4S {z1 z2 z3 z4 : Str} {y1 y2 y3 y4 : V} (h : H2 p = some (.dK [])) (hp : H p = none) (e : Ex H H2) (nd : ([z1, z2, z3, z4] : List Str).Nodup)
    (k : ∀ H3, Ex H H3 → (∀ a xs, H2 a = some (.tup xs) → H3 a = some (.tup xs)) → H3 p = some (.dK [(Sum.inr z1, y1), (Sum.inr z2, y2), (Sum.inr z3, y3), (Sum.inr z4, y4)]) → Q (.ref p) H3) : DispK H p [(.str z1, y1), (.str z2, y2), (.str z3, y3), (.str z4, y4)] H2 Q := by
  refine ⟨h, [(Sum.inr z1, y1), (Sum.inr z2, y2), (Sum.inr z3, y3), (Sum.inr z4, y4)], rfl, (by show 4 ≤ 15; decide), ?_⟩
  refine k _ (Ex.mut e hp) (fun a xs ha => ?_) (by rw [upd_same, merge4 nd])
  rw [upd_ne (ne_of ha h (by intro z; cases z))]
  exact ha
end
end Sx

set_option Elab.async false
set_option linter.all false
set_option maxRecDepth 100000
set_option maxHeartbeats 2000000
/-! a tuple the other way round -/
namespace Rv
open PySem PySem.Spec PyProof.Rows L2
section
variable {prog : Program} {w : World} {A : Around} {E : Value → Shared → Prop} {s : Shared}
theorem adj_back (n : Nat) : Builtin.Slice.sliceAdjust none none (-1) (n : Int) = ((n : Int) - 1, -1) := by
  unfold Builtin.Slice.sliceAdjust
  simp
theorem many_back (n : Nat) : Builtin.Slice.slicePlaces ((n : Int) - 1) (-1) (-1) = n := by
  unfold Builtin.Slice.slicePlaces
  simp
  split <;> omega
theorem fm_congr {f g : Nat → Option Value} : ∀ l : List Nat, (∀ m ∈ l, f m = g m) → l.filterMap f = l.filterMap g
  | [], _ => rfl
  | m :: l, h => by
    rw [List.filterMap_cons, List.filterMap_cons, h m (by simp), fm_congr l fun x hx => h x (by simp [hx])]
theorem pick_back (xs : Array Value) : ((List.range xs.size).filterMap fun (m : Nat) => xs[(((xs.size : Nat) : Int) - 1 + (m : Int) * -1).toNat]?) = xs.toList.reverse := by
  have g := congrArg Array.toList (HT.pick_gen xs.toList.reverse.toArray 0 xs.size)
  simp only [List.drop_zero] at g
  rw [List.take_of_length_le (by simp)] at g
  rw [← g]
  refine fm_congr _ fun m hm => ?_
  have hm' : m < xs.size := List.mem_range.mp hm
  rw [show (((xs.size : Nat) : Int) - 1 + (m : Int) * -1).toNat = xs.size - 1 - m by omega, show (((0 : Nat) : Int) + (m : Int) * 1).toNat = m by omega]
  simp [List.getElem?_reverse, hm']
theorem back_slice {sl : Addr} {vs : Value} {n : Nat} {t : Tok} {Q : Int × Int × Nat → Shared → Prop} (cut : s.heap.IsSliceOf sl .none .none vs) (one : vs = .int (-1) t)
    (fin : Q ((n : Int) - 1, -1, n) s) : wpAny (model prog w) A (Builtin.Slice.sliceApplied (.ref sl) (pure (n : Int))) Q E s := by
  subst one
  obtain ⟨ob, at0, _, parts⟩ := id cut
  unfold Builtin.Slice.sliceApplied Builtin.Slice.sliceFields
  refine wpAny_bind (wpAny_bind (wpAny_field at0 parts (x := .none) rfl (wpAny_bind (wpAny_field at0 parts (x := .none) rfl (wpAny_bind (wpAny_field at0 parts (x := .int (-1) t) rfl (wpAny_pure ?_)))))))
  refine wpAny_bind (HT.slicePart_ (IsPart.int (-1) t) ?_)
  show wpAny _ _ (if ((-1 : Int) == 0) = true then _ else _) _ _ s
  rw [if_neg (by decide)]
  refine wpAny_bind (HT.slicePart_ .none (wpAny_bind (HT.slicePart_ .none (wpAny_bind (wpAny_pure ?_)))))
  show wpAny _ _ (match Builtin.Slice.sliceAdjust none none (-1) (n : Int) with | (x, y) => pure (x, (-1 : Int), Builtin.Slice.slicePlaces x y (-1))) _ _ s
  rw [adj_back]
  show wpAny _ _ (pure ((n : Int) - 1, (-1 : Int), Builtin.Slice.slicePlaces ((n : Int) - 1) (-1) (-1))) _ _ s
  rw [many_back]
  exact wpAny_pure fin
theorem back_tuple {a sl : Addr} {its : Array Value} {vs : Value} {t : Tok} {Q : Value → Shared → Prop} (tup : IsTup s.heap a its) (cut : s.heap.IsSliceOf sl .none .none vs) (one : vs = .int (-1) t) (small : its.size ≤ sizeLine)
    (fin : Q (.ref s.heap.objs.size) { s with heap := s.heap.push { cls := .type "tuple", data := .seq its.toList.reverse.toArray } }) : wpAny (model prog w) A (getItem (.ref a) (.ref sl)) Q E s := by
  have fits : sizeOk (.seq its.toList.reverse.toArray) := by
    show its.toList.reverse.toArray.size ≤ sizeLine
    simpa using small
  obtain ⟨ob, at0, kind, _⟩ := id cut
  have isSl : s.TypeIs (.ref sl) "slice" := ⟨ob, at0, kind⟩
  unfold getItem
  try with_reducible refine wpAny_holding ?_
  first | refine wpAny_bind (wpAny_pure ?_) | skip
  refine wpAny_bind (wpAny_sequenceKey tup.typeIs (by decide) ?_)
  refine wpAny_bind (wpAny_callSpecial?_slot (name := Str.ofString "__getitem__") tup.typeIs PyProof.Rows.slot_tuple_getitem (wpAny_call_entry PyProof.Rows.slot_tuple_getitem tup.typeIs PyProof.Rows.entry_tuple_getitem ?_ (PyProof.Rows.args_tuple_getitem _ _)))
  show wpAny _ _ (Builtin.Tuple.tupleItemsOf (.ref a) >>= _) _ _ s
  refine wpAny_bind (PyProof.Rows.tupleItemsOf_ tup (wpAny_bind (wpAny_typeOf isSl ?_)))
  rw [if_pos (by decide)]
  refine wpAny_bind (back_slice cut one ?_)
  show wpAny _ _ (if ((((its.size : Nat) : Int) - 1) == 0 && (-1 : Int) == 1 && its.size == its.size) = true then _ else _) _ _ s
  rw [if_neg (by simp), pick_back]
  first
    | exact wpAny_bind (m := Builtin.Tuple.tupleExact _) (wpAny_newObj_type (wpAny_pure ⟨_, rfl, wpAny_pure fin⟩) fits)
    | exact wpAny_bind (m := Builtin.Tuple.tupleExact _) (wpAny_newObj_type (wpAny_bind (wpAny_pure (wpAny_pure ⟨_, rfl, wpAny_pure fin⟩))) fits)
    | exact wpAny_bind (wpAny_bind (m := Builtin.Tuple.tupleExact _) (wpAny_newObj_type (wpAny_pure (wpAny_pure ⟨_, rfl, wpAny_pure fin⟩)) fits))
    | exact wpAny_bind (wpAny_bind (m := Builtin.Tuple.tupleExact _) (wpAny_newObj_type (wpAny_pure ⟨_, rfl, wpAny_pure fin⟩) fits))
end
section
variable {X : Cx}
/-- t[::-1], t a tuple -/
def tBackT (K : PySem.W.Frag) (te : TE) : TE := fun σ H Q => te σ H fun x H1 => ∃ a xs, x = .ref a ∧ SqT K H1 a xs ∧ ∀ p, H1 p = none → Q (.ref p) (upd H1 p (.tup xs.reverse))
theorem pe_backT {e : Expr} {te : TE} {k : Nat} {p1 p2 p3 pos : Pos} (he : PE X e te) : PE X (.Subscript e (.Slice none none (some (.UnaryOp .USub (.Constant (.int 1) k p1) p2)) p3) pos) (tBackT X.K te) := by
  constructor
  intro pins s σ H Q I h
  refine Subscript_ (thn (he.run pins s σ H _ I h) ?_)
  rintro v s1 ⟨_, H1, I1, r1, a, xs, rfl, hx, q⟩
  cases r1
  have none1 : PO X none tNoPart := po_none
  have minus : PO X (some (.UnaryOp .USub (.Constant (.int 1) k p1) p2)) (tPart (tUn (rU fun i => .int (-i)) (tC (.int 1)))) := po_some (pe_un un_neg pe_int)
  refine wpAny_Slice (thn (none1.run pins s1 σ H1 (fun o H2 => o = none ∧ H2 = H1) I1 ⟨rfl, rfl⟩) ?_)
  rintro vl s2 ⟨o2, H2, I2, pl, e2, e2'⟩
  subst e2 e2'
  refine thn (none1.run pins s2 σ H2 (fun o H3 => o = none ∧ H3 = H2) I2 ⟨rfl, rfl⟩) ?_
  rintro vu s3 ⟨o3, H3, I3, pu, e3, e3'⟩
  subst e3 e3'
  refine thn (minus.run pins s3 σ H3 (fun o H4 => o = some (-1) ∧ H4 = H3) I3 ⟨1, rfl, -1, rfl, rfl, rfl⟩) ?_
  rintro vs s4 ⟨o4, H4, I4, ps, e4, e4'⟩
  subst e4 e4'
  cases pl
  cases pu
  cases ps with
  | int _ t =>
    have I5 : L2.Inv X pins σ H4 { s4 with heap := s4.heap.push { cls := .type "slice", data := .fields #[.none, .none, .int (-1) t] } } := I4.kept (t' := s4.toks) fun b ob q => Heap.get?_push_of_some _ q
    obtain ⟨its, r, ht, hz⟩ := I5.tuple hx
    have hlen := r.length
    show wpAny (model X.prog X.w) X.A (subscriptTail e (.Slice none none (some (.UnaryOp .USub (.Constant (.int 1) k p1) p2)) p3) (.ref a) (.ref s4.heap.objs.size)) (EP X pins σ Q) X.xe { s4 with heap := s4.heap.push { cls := .type "slice", data := .fields #[.none, .none, .int (-1) t] } }
    refine tail_any (ops := [.ref a, .ref s4.heap.objs.size]) ht.typeIs (PyProof.Rows.slot_tuple_getitem.lookup) ?_ (by with_unfolding_all rfl)
    refine back_tuple ht (Heap.IsSliceOf.new _ .none .none (.int (-1) t)) rfl (by rw [List.size_toArray]; omega) ?_
    refine ⟨.ref _, _, I5.laid (t' := s4.toks) (o := .tup xs.reverse) (fun b ob q => Heap.get?_push_of_some _ q) (Nat.le_refl _) ?_, rfl, q _ (I5.hok.fresh (Nat.le_refl _))⟩
    exact ⟨by rw [List.length_reverse]; exact hz, _, r.reverse, IsTup.new _ _⟩
end
end Rv
namespace Rv
open PySem PySem.Spec PyProof.Rows L2
section
variable {X : Cx}
/-! ### a range as a value, and what is not in it -/
def rRange1 : List V → Hp → VK → Prop := fun vs H Q => ∃ j : Int, vs = [.int j] ∧ ∀ p, H p = none → Q (.ref p) (upd H p (.rng 0 j))
theorem c_range1 : CallR X (.type "range") rRange1 := by
  intro pins s σ H vs us Q I r h
  obtain ⟨j, rfl, q⟩ := h
  obtain ⟨u, rfl, ru⟩ := vals1 r
  obtain ⟨t, rfl⟩ := ru
  refine call_range_1 ⟨.ref s.heap.objs.size, upd H s.heap.objs.size (.rng 0 j), ?_⟩
  refine ⟨I.laid (t' := _) (fun b o e => Heap.get?_push_of_some _ e) (Nat.le_refl _) ⟨_, _, _, Heap.get?_push_size _ rfl⟩, rfl, q _ (I.hok.fresh (Nat.le_refl _))⟩
def rNotInRng : R2 := fun x y H Q => ∃ (i : Int) (a : Addr) (lo hi : Int), x = .int i ∧ y = .ref a ∧ H a = some (.rng lo hi) ∧ Q (.bl (!decide (lo ≤ i ∧ i < hi))) H
theorem op_notInRng : OpR X (compareOp .NotIn) rNotInRng := by
  intro pins s σ H x y v u Q I rx ry h
  obtain ⟨i, a, lo, hi, rfl, rfl, ha, q⟩ := h
  obtain ⟨k, rfl⟩ := rx
  cases ry
  obtain ⟨t1, t2, t3, at0⟩ := I.hok a _ ha
  show wpAny _ _ (do return Value.bool (!(← contains (Value.ref a) (Value.int i k)))) _ _ s
  refine wpAny_bind (wpAny_contains_slot (T := "range") ⟨_, at0, rfl⟩ F.slot_range_contains (call_meets F.slot_range_contains ⟨_, at0, rfl⟩ F.entry_range_contains (F.args_range_contains_2 _ _) (q_contains a lo hi i t1 t2 t3 k) ⟨at0, wpAny_truthy_bool (wpAny_pure ?_)⟩))
  rw [place1]
  exact ⟨.bl _, H, I, rfl, q⟩
/-! ### repr, of an empty dict too -/
def rReprX (K : PySem.W.Frag) : List V → Hp → VK → Prop := fun xs H Q => Ow.rRepr K xs H Q ∨ ∃ a, xs = [.ref a] ∧ H a = some (.dK []) ∧ Q (.str (PyData.dict []).shown) H
theorem call_reprX (hG : X.A.guards = some []) (hu : X.A.units + 64 < cLine) : CallR X (.builtin "repr") (rReprX X.K) := by
  intro pins s σ H xs us Q I r h
  rcases h with h | ⟨a, rfl, ha, q⟩
  · exact Ow.call_repr hG hu pins s σ H xs us Q I r h
  · obtain ⟨u, rfl, ru⟩ := vals1 r
    cases ru
    obtain ⟨_, away, vs, kv, o, es, ep, at0, ex, dat, _, prs, _⟩ := I.hok a _ ha
    cases kv
    have none0 : es.toList = [] := by
      generalize es.toList = l at prs
      cases prs
      rfl
    have rd : Reads s.heap (.ref a) (.dict []) (a :: [] ++ []) := .dict (kvs := []) at0 ex.1 dat (by rw [none0]; exact .nil) (by rw [none0]; exact .nil)
    refine PySem.repr_of_reads' rd rfl (fun _ m => ?_) hG ?_ (fun b o e => e) (fun h' u tk keep => ⟨.str _, H, I.kept keep, ⟨_, rfl⟩, q⟩) ?_
    · rcases List.mem_singleton.mp (by simpa using m) with e
      rw [← e] at away
      simp at away
    · show X.A.units + (PyData.depth (.dict []) + 1) < cLine
      have : PyData.depth (.dict []) = 1 := rfl
      omega
    · show (PyData.dict []).shown.length ≤ sizeLine
      exact Nat.le_trans (show (PyData.dict []).shown.length ≤ 2 by decide) (by decide)
end
end Rv

set_option Elab.async false
set_option linter.all false
set_option maxRecDepth 100000
set_option maxHeartbeats 2000000
namespace Sx
open PySem PySem.Spec PyProof.Rows L2 StrLaws
/-! ### data that stays -/
mutual
def DN (H : Hp) : PyData → V → Prop
  | .none, v => v = .non
  | .bool b, v => v = .bl b
  | .int i, v => v = .int i
  | .str z, v => v = .str z
  | .list ds, v => ∃ a xs, v = .ref a ∧ H a = some (.lst xs) ∧ NB (.lst xs) ∧ DNs H ds xs
  | .tuple ds, v => ∃ a xs, v = .ref a ∧ H a = some (.tup xs) ∧ DNs H ds xs
  | .dict _, _ => False
def DNs (H : Hp) : List PyData → List V → Prop
  | [], xs => xs = []
  | d :: ds, xs => ∃ x r, xs = x :: r ∧ DN H d x ∧ DNs H ds r
end
mutual
theorem DN.dp {H : Hp} {K : PySem.W.Frag} : ∀ (d : PyData) (v : V), DN H d v → Dp K H v d
  | .none, _, h => by rw [DN] at h; rw [h]; exact .non
  | .bool b, _, h => by rw [DN] at h; rw [h]; exact .bl b
  | .int i, _, h => by rw [DN] at h; rw [h]; exact .int i
  | .str z, _, h => by rw [DN] at h; rw [h]; exact .str z
  | .list ds, _, h => by
    rw [DN] at h
    obtain ⟨a, xs, rfl, ha, _, hd⟩ := h
    exact .lst (SqL.of ha) (DNs.dp ds xs hd)
  | .tuple ds, _, h => by
    rw [DN] at h
    obtain ⟨a, xs, rfl, ha, hd⟩ := h
    exact .tup (SqT.of ha) (DNs.dp ds xs hd)
  | .dict _, _, h => by rw [DN] at h; exact h.elim
theorem DNs.dp {H : Hp} {K : PySem.W.Frag} : ∀ (ds : List PyData) (xs : List V), DNs H ds xs → DpAll K H xs ds
  | [], _, h => by rw [DNs] at h; rw [h]; exact .nil
  | d :: ds, _, h => by
    rw [DNs] at h
    obtain ⟨x, r, rfl, h1, h2⟩ := h
    exact .cons (DN.dp d x h1) (DNs.dp ds r h2)
end
mutual
theorem DN.mono {H H1 : Hp} (e : Ex H H1) : ∀ (d : PyData) (v : V), DN H d v → DN H1 d v
  | .none, _, h => by rw [DN] at h ⊢; exact h
  | .bool b, _, h => by rw [DN] at h ⊢; exact h
  | .int i, _, h => by rw [DN] at h ⊢; exact h
  | .str z, _, h => by rw [DN] at h ⊢; exact h
  | .list ds, _, h => by
    rw [DN] at h ⊢
    obtain ⟨a, xs, rfl, ha, nb, hd⟩ := h
    exact ⟨a, xs, rfl, e.kp _ _ ha nb, nb, DNs.mono e ds xs hd⟩
  | .tuple ds, _, h => by
    rw [DN] at h ⊢
    obtain ⟨a, xs, rfl, ha, hd⟩ := h
    exact ⟨a, xs, rfl, e.kp _ _ ha NB.tup, DNs.mono e ds xs hd⟩
  | .dict _, _, h => by rw [DN] at h; exact h.elim
theorem DNs.mono {H H1 : Hp} (e : Ex H H1) : ∀ (ds : List PyData) (xs : List V), DNs H ds xs → DNs H1 ds xs
  | [], _, h => by rw [DNs] at h ⊢; exact h
  | d :: ds, _, h => by
    rw [DNs] at h ⊢
    obtain ⟨x, r, rfl, h1, h2⟩ := h
    exact ⟨x, r, rfl, DN.mono e d x h1, DNs.mono e ds r h2⟩
end
theorem DNs.len {H : Hp} : ∀ {ds : List PyData} {xs : List V}, DNs H ds xs → ds.length = xs.length
  | [], _, h => by rw [DNs] at h; rw [h]; rfl
  | d :: ds, _, h => by
    rw [DNs] at h
    obtain ⟨x, r, rfl, h1, h2⟩ := h
    rw [List.length_cons, List.length_cons, DNs.len h2]
/-- small data -/
structure Sml (b e : Nat) (d : PyData) : Prop where
  able : d.showable = true
  nodict : d.hasDict = false
  short : d.leavesShort 60 = true
  lay : d.canLay0 = true
  bulk : d.bulk ≤ b
  deep : d.depth ≤ e
theorem Sml.up {b e b' e' : Nat} {d : PyData} (h : Sml b e d) (h1 : b ≤ b') (h2 : e ≤ e') : Sml b' e' d := ⟨h.able, h.nodict, h.short, h.lay, Nat.le_trans h.bulk h1, Nat.le_trans h.deep h2⟩
theorem Sml.shw {b e : Nat} {d : PyData} (h : Sml b e d) (h1 : b ≤ 100000) (h2 : e ≤ 40) : Ow.Shw d := ⟨h.able, h.nodict, h.short, Nat.le_trans h.bulk h1, Nat.le_trans h.deep h2⟩
theorem Sml.all {b e : Nat} : ∀ {ds : List PyData}, (∀ d ∈ ds, Sml b e d) → PyData.showableAll ds = true ∧ PyData.hasDictAll ds = false ∧ PyData.leavesShortAll 60 ds = true ∧ PyData.canLayAll0 ds = true ∧ PyData.bulkAll ds ≤ ds.length * (b + 1) ∧ PyData.depthAll ds ≤ e
  | [], _ => by simp [PyData.showableAll, PyData.hasDictAll, PyData.leavesShortAll, PyData.canLayAll0, PyData.bulkAll, PyData.depthAll]
  | d :: ds, h => by
    obtain ⟨h1, h2, h3, h4, h5, h6⟩ := h d (by simp)
    obtain ⟨k1, k2, k3, k4, k5, k6⟩ := Sml.all (ds := ds) fun x hx => h x (by simp [hx])
    refine ⟨?_, ?_, ?_, ?_, ?_, ?_⟩
    · simp [PyData.showableAll, h1, k1]
    · simp [PyData.hasDictAll, h2, k2]
    · simp [PyData.leavesShortAll, h3, k3]
    · simp [PyData.canLayAll0, h4, k4]
    · simp only [PyData.bulkAll, List.length_cons]
      rw [Nat.add_mul, Nat.one_mul]
      omega
    · simp only [PyData.depthAll]
      exact Nat.max_le.mpr ⟨h6, k6⟩
theorem Sml.tup {b e n : Nat} {ds : List PyData} (h : ∀ d ∈ ds, Sml b e d) (hn : ds.length ≤ n) : Sml (n * (b + 1)) (e + 1) (.tuple ds) := by
  obtain ⟨k1, k2, k3, k4, k5, k6⟩ := Sml.all h
  refine ⟨by simpa [PyData.showable] using k1, by simpa [PyData.hasDict] using k2, by simpa [PyData.leavesShort] using k3, by simpa [PyData.canLay0] using k4, ?_, ?_⟩
  · simp only [PyData.bulk]
    exact Nat.le_trans k5 (Nat.mul_le_mul_right _ hn)
  · simp only [PyData.depth]
    omega
theorem Sml.lst {b e n : Nat} {ds : List PyData} (h : ∀ d ∈ ds, Sml b e d) (hn : ds.length ≤ n) : Sml (n * (b + 1)) (e + 1) (.list ds) := by
  obtain ⟨k1, k2, k3, k4, k5, k6⟩ := Sml.all h
  refine ⟨by simpa [PyData.showable] using k1, by simpa [PyData.hasDict] using k2, by simpa [PyData.leavesShort] using k3, by simpa [PyData.canLay0] using k4, ?_, ?_⟩
  · simp only [PyData.bulk]
    exact Nat.le_trans k5 (Nat.mul_le_mul_right _ hn)
  · simp only [PyData.depth]
    omega
theorem Sml.int {i : Int} (h : i.natAbs < 10 ^ 59) : Sml 0 0 (.int i) := ⟨int_shows h, by simp [PyData.hasDict], int_short h, by simp [PyData.canLay0], by simp [PyData.bulk], by simp [PyData.depth]⟩
theorem Sml.bool {b : Bool} : Sml 0 0 (.bool b) := ⟨by simp [PyData.showable], by simp [PyData.hasDict], by simp [PyData.leavesShort], by simp [PyData.canLay0], by simp [PyData.bulk], by simp [PyData.depth]⟩
theorem Sml.none : Sml 0 0 .none := ⟨by simp [PyData.showable], by simp [PyData.hasDict], by simp [PyData.leavesShort], by simp [PyData.canLay0], by simp [PyData.bulk], by simp [PyData.depth]⟩
theorem Sml.str {z : Str} {n : Nat} (ok : PyData.strOk z = true) (h : (z.cps.toList.all fun c => decide (c < 16 ^ 8)) = true) (hn : z.cps.size ≤ n) : Sml n 0 (.str z) := ⟨by simp [PyData.showable], by simp [PyData.hasDict], by simpa only [PyData.leavesShort] using h, by simpa [PyData.canLay0] using ok, by simpa [PyData.bulk] using hn, by simp [PyData.depth]⟩
section
variable {H H1 : Hp} {b a : Addr} {K : PySem.W.Frag} {σ : L2.St} {Q : VK} {te : TE}
/-- a comprehension over zip(a text, a tuple), by what one turn gives -/
theorem zip_genV {x : Str} {ys : List V} {f : Nat → V → V} {j1 j2 : Nat} {vs : List Nat} (hx : H1 b = some (.tup ys)) (hn : x.cps.size = ys.length) (h4 : ys.length ≤ 1000)
    (hnb : ∀ i, NB (.lst ((List.zipWith f x.cps.toList ys).take i))) (hw : ∀ u v, wipe (((wipe σ vs).set j1 (some u)).set j2 (some v)) vs = wipe σ vs)
    (hte : ∀ (i c : Nat) (y : V) (H' : Hp) (Q' : VK), Ex H1 H' → x.cps.toList[i]? = some c → ys[i]? = some y → Q' (f c y) H' → te (((wipe σ vs).set j1 (some (.str ⟨#[c]⟩))).set j2 (some y)) H' Q')
    (k : ∀ p H2, Ex H1 H2 → H1 p = none → H2 p = some (.lst (List.zipWith f x.cps.toList ys)) → Q (.ref p) H2) :
    ZK K [.str x, .ref b] H1 fun J H2 => LcGo J (gTup K 2 (gCons (gName j1) (gCons (gName j2) gNil))) tYes te vs σ H2 Q := by
  have hz : (List.zipWith f x.cps.toList ys).length = ys.length := by rw [List.length_zipWith, Array.length_toList, hn, Nat.min_self]
  refine lc_zip (n := ys.length) (.inl ⟨hn, Nat.le_refl _⟩) hx (fun i acc _ => acc = (List.zipWith f x.cps.toList ys).take i) (by rw [List.take_zero]) (fun _ _ _ _ _ h => h) (fun i acc _ h => ?_) hw (fun i c y acc H' hc hy e hI kk k1 k2 => ?_) (fun p zs H2 e hp hzs hI => ?_)
  · subst h
    refine ⟨hnb i, Nat.lt_of_le_of_lt (Nat.le_trans (List.length_take_le' _ _) (by rw [hz]; exact h4)) (by decide)⟩
  · have hc' : x.cps.toList[i]? = some c := by simpa using hc
    refine x_yes (x_iteT (hte i c y H' _ e hc' hy (k1 _ _ (Ex.refl _) ?_)))
    rw [List.take_add_one, hI]
    congr 1
    rw [List.getElem?_zipWith, hc', hy]
    rfl
  · refine k p H2 e hp ?_
    rw [hzs, hI, ← hz, List.take_length]
end
end Sx

set_option Elab.async false
set_option linter.all false
set_option maxRecDepth 100000
set_option maxHeartbeats 2000000
namespace Sx
open PySem PySem.Spec PyProof.Rows L2 StrLaws
section
variable {H H1 : Hp} {p b a : Addr} {K : PySem.W.Frag} {σ : L2.St} {Q : VK} {te : TE} {v w : V} {xs : List V}
theorem x_notInTt (h : H p = some (.tup xs)) (hv : flatV v = true) (ha : xs.all flatV = true) (e : inV v xs = false) (k : Q (.bl true) H) : rIn K true v (.ref p) H Q := ⟨p, _, rfl, .inr (SqT.of h), hv, ha, by rw [if_pos rfl, e]; exact k⟩
theorem x_notInTf (h : H p = some (.tup xs)) (hv : flatV v = true) (ha : xs.all flatV = true) (e : inV v xs = true) (k : Q (.bl false) H) : rIn K true v (.ref p) H Q := ⟨p, _, rfl, .inr (SqT.of h), hv, ha, by rw [if_pos rfl, e]; exact k⟩
theorem x_notRng {i lo hi : Int} (h : H a = some (.rng lo hi)) (k : Q (.bl (!decide (lo ≤ i ∧ i < hi))) H) : Rv.rNotInRng (.int i) (.ref a) H Q := ⟨i, a, lo, hi, rfl, rfl, h, k⟩
theorem NB.rng {i j : Int} : NB (.rng i j) := fun _ _ _ _ h => nomatch h
theorem x_range1 {j : Int} (k : ∀ p H1, Ex H H1 → H p = none → H1 p = some (.rng 0 j) → Q (.ref p) H1) : Rv.rRange1 [.int j] H Q := ⟨j, rfl, fun p hp => k p _ (Ex.new hp) hp upd_same⟩
theorem x_backT (k : te σ H fun x H1 => ∃ a xs, x = .ref a ∧ SqT K H1 a xs ∧ JustNew (.tup xs.reverse) H1 Q) : Rv.tBackT K te σ H Q := k
theorem x_reprX (h : Ow.rRepr K xs H Q) : Rv.rReprX K xs H Q := .inl h
theorem x_repr0 (h : H a = some (.dK [])) (k : Q (.str (PyData.dict []).shown) H) : Rv.rReprX K [.ref a] H Q := .inr ⟨a, rfl, h, k⟩
/-- equality of data with an empty tuple, an empty list -/
theorem eqv_nilT {ds : List PyData} : PyData.eqv (.tuple ds) (.tuple []) = ds.isEmpty := by
  cases ds <;> simp [PyData.eqv, PyData.eqvAll]
theorem eqv_nilL {ds : List PyData} : PyData.eqv (.list ds) (.list []) = ds.isEmpty := by
  cases ds <;> simp [PyData.eqv, PyData.eqvAll]
end
section
variable {X : Cx}
theorem c_listOf : CallR X (.type "list") (rListOf X.K) := call_list_of
end
end Sx

set_option Elab.async false
set_option maxRecDepth 100000
set_option maxHeartbeats 2000000
set_option linter.all false
/-! errors of the program: try .. except C as e .. else -/
namespace Er
open PySem PySem.Spec PyProof.Rows L2
theorem off_frames {B h : Heap} {l : List Env} {a : Addr} {o : Obj} {vs : Array Value}
    (ff : h.FunFrames B l) (e : h.get? a = some o) (dd : o.data = .fields vs) : a ∉ frs l := by
  intro hm
  obtain ⟨_, o', e', nf⟩ := ff.mem hm
  cases e.symm.trans e'
  exact nf _ dd
section
variable {X : Cx} {x n : Str} {c : Value} {i : Nat} {body suite : List Stmt} {b0 : Stmt} {np pos pos' : Pos}
variable {tb : WX → TS} {ts : Addr → Value → Option Addr → TS} {Wout : WX}
/-- what the handlers are to do with an exception -/
def Met (X : Cx) (pins : List (Addr × Obj)) (D : Ends) (hd : ExceptHandler) (v : Value) (s' : Shared) : Prop :=
  wpAny (model X.prog X.w) X.A (noteFrame v X.env) (fun _ s2 => wpAny (model X.prog X.w) X.A (setFlight v none) (fun _ s3 =>
    wpAny (model X.prog X.w) X.A (handleBy v X.env [hd]) (SP X pins D) X.xe s3) X.xe s2) X.xe s'
/-- the handler alone: an exception in the air of the body is met by `except x as n` -/
theorem caught {pins : List (Addr × Obj)} {D : Ends} {v : Value} {s' : Shared} (ok : X.Ok) (hs : X.stack = X.env :: X.outer)
    (hf : X.env.frame = some X.env.locals) (hN : X.N.Nodup) (hi : X.N[i]? = some n) (hln : X.env.kindOf n = some .local)
    (hc : Names X x c) (tk : L2N.Takes X Wout)
    (hsu : ∀ (a : Addr) (oe : Obj) (cls : Value) (d : Option Addr) (pn : List (Addr × Obj)), L2N.Zn cls d oe →
      (∃ vs, oe.data = .fields vs) → PSs (X.suite a ((a, oe) :: pn)) (b0 :: suite) (ts a cls d))
    {xe : Value → Shared → Prop} (g : L2N.XE (X.tr (X.pn ++ pins) xe) (wAs X.K c i ts Wout D) v s') :
    Met X pins D (.ExceptHandler (some (.Name x np)) (some n) (b0 :: suite) pos') v s' := by
  have hfr : X.A.frames = some (X.env :: X.outer) := by rw [ok.frames, hs]
  obtain ⟨a, B, sI, p1, σ1, H1, cls, d, rfl, J0, nb, up, sky, na, os, ag, b, hb1, yes, no⟩ := g
  have J : Inv X pins σ1 H1 sI := J0.ofTry ok
  have sky1 : Sky B (X.env :: X.outer) a (L2N.Zn cls d) X.env.locals s'.heap := hs ▸ sky
  refine L2N.Sky.land L2N.Zn.steady hfr hf sky1 ?_
  intro h3 f3 u3
  obtain ⟨o3, v3, g3, z3, d3⟩ := f3.there
  have nfr : a ∉ frs (X.env :: X.outer) := off_frames f3.2.2.1 g3 d3
  have nL : a ≠ X.env.locals := by
    intro z
    exact nfr (List.mem_filterMap.mpr ⟨X.env, by simp, by rw [hf, z]⟩)
  have nF : a ∉ X.fs := by
    intro hm
    obtain ⟨e, he, q⟩ := List.mem_filterMap.mp hm
    exact nfr (List.mem_filterMap.mpr ⟨e, by simp [he], q⟩)
  have J3 := J.landed nb f3.1 (up.trans u3) os ag (s' := ⟨h3, s'.gens, s'.drawn, s'.toks, s'.os⟩)
  have S3 := J3.suite g3 d3 na nL nF
  have ty : PySem.W.Looks (model X.prog X.w) h3 (typeOf (.ref a)) cls := by
    intro A Q E s k q
    exact wpAny_typeOf_ref (k _ _ g3) (by rw [z3.1]; exact q)
  refine wpAny_handleBy_cons (codeAny_handlers_test ?_) (fun q => nomatch q)
  have nameIs : ∀ {Q E : Value → Shared → Prop}, Q c ⟨h3, s'.gens, s'.drawn, s'.toks, s'.os⟩ →
      wpAny (model X.prog X.w) (X.A.mark (some (.ref a))) (eval (.Name x np) X.env) Q E ⟨h3, s'.gens, s'.drawn, s'.toks, s'.os⟩ := by
    intro Q E q
    obtain ⟨w1, w2, w3⟩ := hc
    rcases w3 with m | ⟨m, bv, nn⟩
    · exact ld_glob (X := X.suite a ((a, o3) :: (X.pn ++ pins))) S3 w1 m q w2
    · exact ld_blt (X := X.suite a ((a, o3) :: (X.pn ++ pins))) S3 w1 m bv q nn w2
  refine nameIs ((PySem.W.exm_one (M := model X.prog X.w) J3.kIn ty hb1).here ?_)
  cases b
  · -- another's: it flies on
    show wpAny _ X.A (handleBy (.ref a) X.env []) _ _ _
    refine wpAny_handleBy_nil ?_
    obtain ⟨_, _, _, oe, vs, T, oT, ts1, he, hz, hd, h1, _⟩ := id f3
    unfold PySem.passOn
    refine wpAny_bind (wpAny_field he hd h1 ?_)
    rw [if_neg (by simp : ¬ ((Value.ref T == Value.none) = true))]
    have up2 : wpAny (model X.prog X.w) X.A (setFlight (.ref a) X.env.frame) (fun _ s4 =>
        wpAny (model X.prog X.w) X.A (throw (.ref a) : Sem Flow) (SP X pins D) X.xe s4) X.xe ⟨h3, s'.gens, s'.drawn, s'.toks, s'.os⟩ := by
      rw [hf]
      refine HandSPX.setFlight_upZ f3 (fun h4 k4 u4 => wpAny_throw (tk _ _ ?_))
      exact ⟨a, B, sI, pins, σ1, H1, cls, d, rfl, J, nb, (up.trans u3).trans u4, .inr (.inr (hs.symm ▸ k4)), na, os, ag, no rfl⟩
    first
      | exact wpAny_bind (wpAny_pure (wpAny_bind up2))
      | exact wpAny_bind up2
  · -- the suite
    refine codeAny_handlers_suite_as (HandSPX.lands_againZ f3 ?_)
    intro h4 f4 u4
    obtain ⟨o4, v4, g4, z4, d4⟩ := f4.there
    have J4 := J.landed nb f4.1 ((up.trans u3).trans u4) os ag (s' := ⟨h4, s'.gens, s'.drawn, s'.toks, s'.os⟩)
    refine store_ok (X := X.suite a ((a, o4) :: (X.pn ++ pins))) (v := .ref a) (J4.suite g4 d4 na nL nF) hN hi (.inl hln) rfl ?_ (.inr hln)
    intro s5 S5
    have run := (hsu a o4 cls d (X.pn ++ pins) z4 ⟨_, d4⟩).run [] s5 _ H1 _ S5 (yes rfl a na)
    refine wpAny_mono run ?_ (fun _ _ z => z.elim)
    intro f s6 q
    have over : ∀ {σ6 : L2.St} {H6 : Hp} {Q : Shared → Prop}, Inv (X.suite a ((a, o4) :: (X.pn ++ pins))) [] σ6 H6 s6 →
        (∀ s7, Inv X pins (σ6.set i none) H6 s7 → Q s7) →
        wpAny (model X.prog X.w) X.A (do bindName X.env n .none; unbindBehindTheSuite X.env n pos') (fun _ s7 => Q s7) X.xe s6 := by
      intro σ6 H6 Q S6 hq
      exact gone_ok (S6.unsuite ok) hN hi hln hq
    cases f
    case ret u =>
      obtain ⟨w6, σ6, H6, S6, r6, q6⟩ := q
      exact over S6 (fun s7 J7 => ⟨_, _, _, J7, r6, q6⟩)
    all_goals
      obtain ⟨σ6, H6, S6, q6⟩ := q
      exact over S6 (fun s7 J7 => ⟨_, _, J7, q6⟩)
/-- try: body, except x as n: suite, else: orelse -/
theorem ps_try_as {orelse : List Stmt} {u : TS} (ho : PSs X orelse u) (hs : X.stack = X.env :: X.outer)
    (hf : X.env.frame = some X.env.locals) (hN : X.N.Nodup) (hi : X.N[i]? = some n) (hln : X.env.kindOf n = some .local)
    (hc : Names X x c) (tk : L2N.Takes X Wout)
    (hb : ∀ (W : WX) (pn : List (Addr × Obj)) (xe : Value → Shared → Prop), (∀ q ∈ X.pn, q ∈ pn) → L2N.Takes (X.tr pn xe) W →
      PassesOwn (model X.prog X.w) X.A X.env xe → PSs (X.tr pn xe) body (tb W))
    (hsu : ∀ (a : Addr) (oe : Obj) (cls : Value) (d : Option Addr) (pn : List (Addr × Obj)), L2N.Zn cls d oe →
      (∃ vs, oe.data = .fields vs) → PSs (X.suite a ((a, oe) :: pn)) (b0 :: suite) (ts a cls d)) :
    PS X (.Try body [.ExceptHandler (some (.Name x np)) (some n) (b0 :: suite) pos'] orelse [] pos)
      (fun D σ H => tb (wAs X.K c i ts Wout D) { D with nx := u D } σ H) := by
  refine ⟨fun pins s σ H D I h => ?_⟩
  have ok := I.ok
  refine wpAny_Try_except ?_
  have inBody := hb (wAs X.K c i ts Wout D) (X.pn ++ pins) (Met X pins D (.ExceptHandler (some (.Name x np)) (some n) (b0 :: suite) pos')) (fun q hq => List.mem_append_left _ hq)
    (fun v s' g => caught ok hs hf hN hi hln hc tk hsu g) PassesOwn.looking
  refine wpAny_mono (inBody.run [] s σ H { D with nx := u D } (I.toTry _) h) ?_ (fun _ _ z => z)
  intro f s1 q
  cases f
  case next =>
    obtain ⟨σ1, H1, J1, q1⟩ := q
    exact ho.run pins s1 σ1 H1 D (J1.ofTry ok) q1
  case ret v =>
    obtain ⟨w1, σ1, H1, J1, r1, q1⟩ := q
    exact ⟨w1, σ1, H1, J1.ofTry ok, r1, q1⟩
  all_goals
    obtain ⟨σ1, H1, J1, q1⟩ := q
    exact ⟨σ1, H1, J1.ofTry ok, q1⟩
end
end Er

set_option Elab.async false
set_option maxRecDepth 100000
set_option maxHeartbeats 2000000
set_option linter.all false
/-! errors of the program: made, raised, asked for their class, read; defs called while one is handled -/
namespace Er
open PySem PySem.Spec PyProof.Rows L2
/-- what the top says of an error's class -/
structure XC (K : PySem.W.Frag) (C : Addr) : Prop where
  oex : OexC K C
  ga : PySem.W.findIn K (.ref C) "__getattribute__" = some (some (.builtin "BaseException.__getattribute__"))
  gg : PySem.W.findIn K (.ref C) "__getattr__" = some none
  hd : PySem.W.hasDictIn K C = true
  ha : PySem.W.findIn K (.ref C) "__class__" = some (some (.builtin "object.__class__"))
  hn : PySem.W.specialIn K (.builtin "object.__class__") "__get__" = some (some (.builtin "getset_descriptor.__get__"))
  ht : PySem.W.takesIn K (.builtin "object.__class__") = some true
  hm : PySem.W.mroIn K C (.type "object") = some true
theorem XC.xf {K : PySem.W.Frag} {C : Addr} (x : XC K C) : XfC K C := ⟨x.ga, x.gg, x.oex.exC, x.hd⟩
theorem XC.isC {K : PySem.W.Frag} {C : Addr} (x : XC K C) : (PySem.W.clsIn K C).isSome = true := by
  obtain ⟨nm, q, N, bs, bm, sn, sub, ab, col, dd, k0, k1, k2, k3, k5, hC, _⟩ := x.oex.cls
  unfold PySem.W.clsIn
  rw [hC] <;> rfl
theorem takes0 {X : Cx} : L2N.Takes X (fun _ _ _ _ => False) := by
  intro u s' x
  obtain ⟨_, _, _, _, _, _, _, _, _, _, _, _, _, _, _, _, z⟩ := x
  exact z.elim
section
variable {X : Cx} {CX : CXT} {x : Str} {C fI : Addr} {k : Nat} {fd : FuncData} {ps : List Str} {sp : Sp} {e : Expr} {es : List Expr} {ta : TA} {p pos : Pos}
/-- C(a, ..), C's own __init__ keeping sp, while nothing is handled -/
theorem pmk_oex (T : OexC X.K C) (iC : PySem.W.findIn X.K (.ref C) "__init__" = some (some (.ref fI)))
    (tI : PySem.W.typeIn X.K (.ref fI) = some (.type "function")) (F1 : FnOk X.prog X.w X.K X.mg X.base CX k fI fd ps sp)
    (hr : Room (k + 1) X.A) (hb : Binds X.K fd ps []) (hx : Passes CX X (fun _ _ _ => False)) (hg : Gl X x) (hm : X.mg x = some (.ref C))
    (ha : PA X (e :: es) ta) (nd : (x == ("__debug__" : Str)) = false := by decide)
    (h1 : starEach (e :: es) X.env = (false, eval e X.env) :: starEach es X.env := by rfl)
    (h2 : (backTo pos (starEach es X.env)).any (·.1) = false := by rfl) :
    L2N.PMk X (.Call (.Name x p) (e :: es) [] pos) (tMkO C sp [] ta) := by
  intro pins s σ H Q I h
  obtain ⟨nm, q, N, bs, bm, sn, sub, ab, col, dd, k0, k1, k2, k3, k5, hC, hbm⟩ := T.cls
  refine wpAny_Call_Name_kw (ld_glob I hg hm ?_ nd)
  refine PySem.W.callWith_K (h₀ := X.base) I.ok.mod.kin T.kC (thn (ha.run pos pins s σ H _ I h) ?_) h1 h2
  rintro us s1 ⟨vs, H1, I1, r1, hz, q1⟩
  refine ⟨I1.kIn, ?_⟩
  show wpAny _ _ (call (.ref C) us) _ _ _
  obtain ⟨hp, g, dr, tk, os⟩ := s1
  -- two objects are laid: the tuple of the arguments, the error
  let n := hp.objs.size
  let hq : Heap := (hp.push (PySem.W.kdv_tup us)).push (PySem.HandSPX.excO C n)
  have up : ∀ b o, hp.get? b = some o → hq.get? b = some o := by
    intro b o z
    exact Heap.get?_push_of_some _ (Heap.get?_push_of_some _ z)
  have at1 : ((hp.push (PySem.W.kdv_tup us)).push (PySem.HandSPX.excO C hp.objs.size)).get? (hp.objs.size + 1) = some (PySem.HandSPX.excO C hp.objs.size) := by heap_get
  have le1 : n ≤ n + 1 := Nat.le_succ _
  have promise := q1 (n + 1) (I1.hok.fresh le1)
  rw [List.append_nil] at promise
  have I2 : Inv X pins σ (upd H1 (n + 1) (exo (n + 1) C none)) ⟨hq, g, dr, tk, os⟩ := I1.laid (t' := tk) up le1 (exo_ok at1)
  have vals : Vals (V.ref (n + 1) :: vs) (Value.ref (n + 1) :: us) := .cons rfl r1
  have len : (Value.ref (n + 1) :: us ++ []).length = ps.length := by
    rw [List.append_nil, ← vals.length]
    exact F1.len _ _ _ _ promise
  have few : us.length ≤ sizeLine := by
    have a := Paired.length r1
    have b := sizeLine_eq
    omega
  have bnd := hb ⟨hq, g, dr, tk, os⟩ (Value.ref (n + 1) :: us) I2.kIn len
  rw [List.append_nil] at bnd
  have body := F1.run _ X.stack ⟨hq, g, dr, tk, os⟩ _ ⟨Value.ref (n + 1) :: us, []⟩ _ _ _ (fun _ _ _ => False) (hr.make C us []) (I2.env0.make C us []) bnd vals promise
  refine wpAny_call (PySem.HandSPX.call_own F.excBase_ValueError (fun Y => PySem.HandSPX.refsVE_contains Y bm hbm) (I1.kIn _ _ hC)
    (PySem.W.looks_findIn I1.kIn iC) (fun self => PySem.W.bind_fn I1.kIn self tI) few (codeAny_mono body ?_))
  rintro r ⟨h2, g2, d2, t2, os'⟩ way
  match r, way with
  | .error er, way => exact hx pins σ _ _ er _ I2 way
  | .ok (.ret u), ⟨v, H2, os2, bare2, un2, hok2, rv, ev, d, fs, ea, ed, hd1, q2⟩ =>
    subst ev
    refine ⟨rv, ?_⟩
    obtain ⟨t0, G, J, kG, ge, hoe, na⟩ := mk_end0 (d2 := d2) (t2 := t2) I1 le1 up un2 hok2 os2 bare2 ea ed hd1
    refine ⟨n + 1, _, _, ⟨G, g2, d2, t2, os'⟩, _, .ref C, some d, rfl, J, kG, ge, hoe, ⟨rfl, rfl, ?_⟩, rfl, rfl, na, rfl, bare2, raises_own T.exC T.tyC, q2⟩
    intro w z
    cases z
    rfl
/-- C(), C without an __init__ of its own -/
theorem pmk_own0 {bmB : List Value} {B newId initId : String} (F : ExcBaseFacts B newId initId bmB) (q : PySem.W.excIn X.K C bmB newId = true)
    (hm : X.mg x = some (.ref C)) (kC : PySem.W.keepIn X.K (.ref C) = true) (r : Raises X (.ref C)) (hg : Gl X x)
    (nd : (x == ("__debug__" : Str)) = false := by decide) :
    L2N.PMk X (.Call (.Name x p) [] [] pos) (fun _ H Q => Q (.ref C) none H) := by
  intro pins s σ H Q I h
  refine wpAny_Call_Name_kw (ld_glob I hg hm ?_ nd)
  refine PySem.W.callWith_K0 I.kIn kC ?_
  show wpAny _ _ (call (.ref C) []) _ _ _
  obtain ⟨bm, N, nm, qn, bs, hdct, sn, sub, ab, col, dd, k0, k1, k2, k3, k5, mN, hC, hN, hni, T⟩ := exc_obj I.kIn q
  refine wpAny_call_exc_subT F T hC hN hni ?_ (Nat.zero_le _)
  intro h' e hmade
  exact L2N.mk_of I hmade r h (I.hok.gone hmade.new)
end
/-! ### in the suite -/
section
variable {X : Cx} {a : Addr} {cls : Value} {d : Option Addr} {oe : Obj} {pn : List (Addr × Obj)}
/-- isinstance(e, c), e the error that the suite holds, of the class D -/
def rIsX (K : PySem.W.Frag) (cls : Value) (d : Option Addr) (a : Addr) : List V → Hp → VK → Prop := fun xs H Q =>
  ∃ (D : Addr) (c : V) (cv : Value) (b : Bool), cls = .ref D ∧ XC K D ∧ (d = none ∨ ∃ dd fs, d = some dd ∧ H dd = some (.xd fs)) ∧
    xs = [.ref a, c] ∧ (∀ u, RelV c u → u = cv) ∧ PySem.W.kitOne K (.ref D) cv = some b ∧ Q (.bl b) H
theorem call_isX (hz : L2N.Zn cls d oe) (hf : ∃ vs, oe.data = .fields vs) :
    CallR (X.suite a ((a, oe) :: pn)) (.builtin "isinstance") (rIsX X.K cls d a) := by
  intro pins s σ H xs us Q I r h
  obtain ⟨D, c, cv, b, rfl, T, hd, rfl, hcv, e, q⟩ := h
  match us, r with
  | [_, u], .cons rx (.cons rt .nil) =>
    cases rx
    obtain rfl := hcv _ rt
    have here := (I.pin (a, oe) (by simp)).1
    obtain ⟨z1, z2, _⟩ := hz
    obtain ⟨vs, hv⟩ := hf
    have J : ∃ od, PySem.W.InstAt s.heap a oe D od := by
      have no : PySem.W.notCls oe = true := by
        unfold PySem.W.notCls
        rw [hv]
      rcases hd with rfl | ⟨dd, fs, rfl, ed⟩
      · exact ⟨none, here, z1, no, by rw [z2]; trivial⟩
      · have ok : ObjOk X.prog X.w H s.heap dd (.xd fs) := I.hok dd _ ed
        obtain ⟨mA, ⟨o, _, _, ho, _⟩, _⟩ := ok
        exact ⟨some o, here, z1, no, by rw [z2]; exact ho⟩
    obtain ⟨od, J⟩ := J
    have ok := PySem.W.kitx_exc (x := a) (ox := oe) (od := od) T.isC T.ga T.gg T.oex.exC T.ha T.hn T.ht T.hm
    exact PySem.W.kia_one ok I.kIn J e (fun z => nomatch z) (fun tk => ⟨.bl b, H, I.kept (t' := tk) (fun _ _ z => z), rfl, q⟩)
/-- e.f -/
def tXg (K : PySem.W.Frag) (a : Addr) (cls : Value) (d : Option Addr) (f : Str) (te : TE) : TE := fun σ H Q => te σ H fun x H1 =>
  x = .ref a ∧ ∃ (C dd : Addr) (fs : List (Str × V)) (v : V), cls = .ref C ∧ XC K C ∧ PySem.W.findIn K (.ref C) f = some none ∧
    d = some dd ∧ H1 dd = some (.xd fs) ∧ fs.lookup f = some v ∧ Q v H1
theorem pe_xg {e : Expr} {te : TE} {pos : Pos} {n : Str} (hz : L2N.Zn cls d oe) (hf : ∃ vs, oe.data = .fields vs)
    (he : PE (X.suite a ((a, oe) :: pn)) e te) (hb : attributeBase e n X.env (eval e X.env) = eval e X.env := by rfl) :
    PE (X.suite a ((a, oe) :: pn)) (.Attribute e n pos) (tXg X.K a cls d n te) := by
  refine ⟨fun pins s σ H Q I h => ?_⟩
  refine attr_of hb (thn (he.run pins s σ H _ I h) ?_)
  rintro u s1 ⟨x, H1, I1, rx, rfl, C, dd, fs, v, rfl, T, hno, rfl, ed, l, q⟩
  cases rx
  have here := (I1.pin (a, oe) (by simp)).1
  obtain ⟨vs, hv⟩ := hf
  have ok : ObjOk X.prog X.w H1 s1.heap dd (.xd fs) := I1.hok dd _ ed
  obtain ⟨mA, hns, hr⟩ := ok
  obtain ⟨od, ho, hl⟩ := lookIn_ns hns
  obtain ⟨u, hu, ru⟩ := RelO.some_of (v := v) (o := mA n) (by rw [← l]; exact hr n)
  have J : PySem.W.InstAt s1.heap a oe C (some od) := ⟨here, hz.1, by unfold PySem.W.notCls; rw [hv], by rw [hz.2.1]; exact ho⟩
  exact HandSPX.exc_get I1.kIn J T.ga T.gg T.oex.exC (PySem.W.findObj_own T.hd hno rfl (by rw [hl, hu])) (handed_of ru) ⟨v, H1, I1.tok _, ru, q⟩
/-- the suite's context bears the error, whose own context is None -/
theorem hot (hz : L2N.Zn cls d oe) (hf : ∃ vs, oe.data = .fields vs) : L2H.HotC (X.suite a ((a, oe) :: pn)) := by
  obtain ⟨vs, hv⟩ := hf
  exact ⟨(a, oe), ⟨rfl, vs, hv, hz.2.2 vs hv⟩, by simp⟩
end
/-! ### defs called while an error is handled, no repr under way -/
structure FnGH (P : Program) (w : World) (K : PySem.W.Frag) (mg : Str → Option Value) (base : Heap) (CX : CXT) (k : Nat) (f : Addr) (fd : FuncData) (ps : List Str) (sp : Sp) : Prop where
  same : ∀ vs H Q E, sp vs H Q E → vs.length = ps.length
  go : ∀ (A : Around) (outer : List Env) (s : Shared) (H : Hp) (args : Args) (us : List Value) (vs : List V) (Q : VK) (E : XK) (p : Addr × Obj), A.guards = some [] → L2H.RoomH k A → L2H.Hot1 A p →
    L2H.PinOk outer H s p → Env0 P w K mg base A outer s H → BindsTo s fd args (ps.zip us) → Vals vs us → sp vs H Q E → codeAny (model P w) A (.call (.ref f) args) (CR CX outer P w H s Q E) s
section
variable {P : Program} {w : World} {K : PySem.W.Frag} {mg : Str → Option Value} {base : Heap} {CX : CXT} {k : Nat} {f : Addr} {fd : FuncData} {ps N : List Str} {sp : Sp} {x qual : Str} {st : Stmt}
theorem fnGH_of (F : Fun K x qual st f fd) (S : FnScope N ps (defScope st)) (same : ∀ vs H Q E, sp vs H Q E → vs.length = ps.length)
    (body : ∀ (cdv : Value) (A : Around) (outer : List Env) (s : Shared) (H : Hp) (vs : List V) (Q : VK) (E : XK) (p : Addr × Obj), A.guards = some [] → L2H.Hot1 A p →
      L2H.RoomH k (A.deeper (envOfC qual (defScope st) s.heap.objs.size f cdv)) → sp vs H Q E →
      ∃ t, PSs (L2H.cxH CX P w K mg base N qual (defScope st) f cdv A outer s H E p) (defBody st) t ∧ t { nx := fun _ H' => Q .non H', rt := Q } (start N vs) H) :
    FnGH P w K mg base CX (k + 1) f fd ps sp := by
  obtain ⟨oc, od, kV, doc, pm, an, cdv, ct, osl, rfl, lk, hcd⟩ := F.ex
  refine ⟨same, ?_⟩
  intro A outer s H args us vs Q E p hg hr hot pin e0 hb r h
  have sub : ∀ b o, base.get? b = some o → s.heap.get? b = some o := fun b o z => (e0.bs b o z).1
  have KS := e0.mod.kin.keeps sub
  refine codeAny_call_function hr.depth (KS _ _ lk) rfl S.co S.gen rfl (PySem.W.codeRec_of KS hcd) (hb _ _ _ _ ?_)
  refine wpAny_newFunctionEnv_cells S.kind ?_ ?_
  · intro y hy
    have m := S.par y.1 (List.of_mem_zip (show (y.1, y.2) ∈ _ from hy)).1
    exact m.imp id (fun q => ⟨q, PySem.W.cellsFrom_some _ _ _ (.inl q)⟩)
  · intro env he sB call
    subst he
    obtain ⟨t, ht, hq⟩ := body cdv A outer s H vs Q E p hg hot (hr.deeper _) h
    have I := L2H.inv_startH (CX := CX) (E := E) S pin e0 (same _ _ _ _ h) r call
    refine ⟨(e0.mod.nolimit.keeps sub).keeps call.toInCall.keep, codeAny_func (wpAny_mono (ht.run [] sB _ H _ I hq) ?_ (fun _ _ z => z))⟩
    intro way sE z
    match way, z with
    | .ret _, ⟨v, _, H', J, rv, q⟩ => exact ⟨v, H', J.os, J.bare, J.base, J.hok, rv, q⟩
    | .next, ⟨_, H', J, q⟩ => exact ⟨.non, H', J.os, J.bare, J.base, J.hok, rfl, q⟩
    | .brk, ⟨_, _, _, q⟩ => exact q.elim
    | .cont, ⟨_, _, _, q⟩ => exact q.elim
theorem FnGH.up {j : Nat} (F : FnGH P w K mg base CX j f fd ps sp) (h : j ≤ k) : FnGH P w K mg base CX k f fd ps sp :=
  ⟨F.same, fun A outer s H args us vs Q E p hg hr => F.go A outer s H args us vs Q E p hg (hr.mono h)⟩
end
section
variable {X : Cx} {CX : CXT} {k : Nat} {f : Addr} {fd : FuncData} {ps : List Str} {sp : Sp} {E : XK} {x : Str} {p pos : Pos} {e : Expr} {es : List Expr} {t : TA}
theorem pe_callGH (hG : X.A.guards = some []) (F : FnGH X.prog X.w X.K X.mg X.base CX k f fd ps sp) (hr : L2H.RoomH k X.A) (hc : L2H.HotC X) (hg : Gl X x) (hm : X.mg x = some (.ref f))
    (hk : PySem.W.keepIn X.K (.ref f) = true) (hb : Binds X.K fd ps []) (hx : Passes CX X E)
    (ha : PA X (e :: es) t) (nd : (x == ("__debug__" : Str)) = false := by decide) (h1 : starEach (e :: es) X.env = (false, eval e X.env) :: starEach es X.env := by rfl) (h2 : (backTo pos (starEach es X.env)).any (·.1) = false := by rfl) :
    PE X (.Call (.Name x p) (e :: es) [] pos) (tCall sp [] E t) := by
  constructor
  intro pins s σ H Q I h
  refine wpAny_Call_Name_kw (ld_glob I hg hm ?_ nd)
  have args := ha.run pos pins s σ H _ I h
  refine PySem.W.callWith_K (h₀ := X.base) I.ok.mod.kin hk (thn args ?_) h1 h2
  rintro us s1 ⟨vs, H1, I1, r1, q1⟩
  refine ⟨I1.kIn, ?_⟩
  rw [List.append_nil] at q1
  have bb := hb s1 us I1.kIn (by rw [List.append_nil, ← r1.length]; exact F.same _ _ _ _ q1)
  rw [List.append_nil] at bb
  obtain ⟨q, hot, hq⟩ := hc
  have P1 := I1.pin q (List.mem_append_left _ hq)
  have pin : L2H.PinOk X.stack H1 s1 q := ⟨P1.1, P1.2.1, fun m => (List.mem_cons.mp (I1.stkSub q.1 m)).elim P1.2.2.1 P1.2.2.2.1, P1.2.2.2.2⟩
  refine wpAny_call (codeAny_mono (F.go X.A X.stack s1 H1 ⟨us, []⟩ _ _ Q E q hG hr hot pin I1.env0 bb r1 q1) ?_)
  intro way sE z
  match way, z with
  | .error er, z => exact hx pins σ H1 s1 er sE I1 z
  | .ok (.ret u), z => exact I1.after z
end
end Er

set_option Elab.async false
set_option maxRecDepth 100000
set_option maxHeartbeats 2000000
set_option linter.all false
/-! errors of the program: what the readings ask -/
namespace Er
open PySem PySem.Spec PyProof.Rows L2 Sx
section
variable {P : Program} {w : World} {K : PySem.W.Frag} {mg : Str → Option Value} {base : Heap}
theorem okX {x qual : Str} {st : Stmt} {f : Addr} {fd : FuncData} {N ps : List Str} {k : Nat} {sp : Sp} (F : Fun K x qual st f fd) (S : FnScope N ps (defScope st)) (len : ∀ vs H Q E, sp vs H Q E → vs.length = ps.length)
    (hbody : ∀ (cdv : Value) (A : Around) (outer : List Env) (s : Shared) (H : Hp) (vs : List V) (Q : VK) (E : XK), Room k (A.deeper (envOfC qual (defScope st) s.heap.objs.size f cdv)) → sp vs H Q E →
      ∃ t, PSs (cxOf (L2N.CX P w) P w K mg base N qual (defScope st) f cdv A outer s H E) (defBody st) t ∧ t { nx := fun _ H' => Q .non H', rt := Q } (start N vs) H) :
    FnOk P w K mg base (L2N.CX P w) (k + 1) f fd ps sp := by
  obtain ⟨oc, od, kV, doc, pm, an, cdv, ct, osl, rfl, lk, hcd⟩ := F.ex
  exact fn_of lk hcd S len (fun A outer s H vs Q E hr hsp => hbody cdv A outer s H vs Q E hr hsp)
end
theorem roomM {k : Nat} {A : Around} {h : Option Value} (r : Room k A) : L2H.RoomH k (A.mark h) := ⟨r.dp, r.un⟩
theorem _root_.Sx.NB.xd {fs : List (Str × V)} : NB (.xd fs) := fun _ _ _ _ h => nomatch h
section
variable {K : PySem.W.Frag} {σ : L2.St} {H H1 H2 : Hp} {Q : VK} {E : XK} {C a p : Addr} {f : Str} {v y z : V} {D : Ends} {W Wout : WX} {te : TE} {cls : Value} {d : Option Addr}
/-- what an error's __init__ of one field does -/
def sp_init (C : Addr) (f : Str) : Sp := fun vs H Q _ => ∃ (a : Addr) (y : V), vs = [.ref a, y] ∧ H a = some (exo a C none) ∧
  ∀ dx, H dx = none → dx ≠ a → Q .non (upd (upd H dx (exd dx [(f, y)])) a (exo a C (some dx)))
theorem x_init {N : List V} (T : XC K C) (hno : PySem.W.findIn K (.ref C) f = some none) (ha : H a = some (exo a C none))
    (h0 : σ[0]? = some (some (.ref a))) (h1 : σ[1]? = some (some y)) (k : ∀ dx, H dx = none → dx ≠ a → D.nx σ (upd (upd H dx (exd dx [(f, y)])) a (exo a C (some dx)))) : tOst K f (tVar 0) (tVar 1) D σ H :=
  ⟨y, h1, .ref a, h0, a, C, rfl, T.oex, hno, .inl ⟨ha, k⟩⟩
def MkK (C : Addr) (sp : Sp) (vs : List V) (H1 : Hp) (Q : XK) : Prop := vs.length ≤ 1000 ∧ ∀ a, H1 a = none → sp (.ref a :: (vs ++ [])) (upd H1 a (exo a C none))
  (fun v H2 => v = .non ∧ ∃ (d : Addr) (fs : List (Str × V)), H2 a = some (exo a C (some d)) ∧ H2 d = some (exd d fs) ∧ H1 d = none ∧ Q (.ref C) (some d) (upd (del H2 a) d (.xd fs))) (fun _ _ _ => False)
theorem x_mkO {sp : Sp} {ta : TA} {Q : XK} (k : ta σ H fun vs H1 => MkK C sp vs H1 Q) : tMkO C sp [] ta σ H Q := k
theorem x_mk1 {Q : XK} (k : ∀ d H2, Ex H H2 → H d = none → H2 d = some (.xd [(f, y)]) → Q (.ref C) (some d) H2) : MkK C (sp_init C f) [y] H Q := by
  refine ⟨by show 1 ≤ 1000; decide, ?_⟩
  intro a ha
  refine ⟨a, y, rfl, upd_same, ?_⟩
  intro dx hx ne
  have hn : H dx = none := by rw [upd_ne ne] at hx; exact hx
  refine ⟨rfl, dx, [(f, y)], upd_same, by rw [upd_ne ne]; exact upd_same, hn, ?_⟩
  have same : upd (del (upd (upd (upd H a (exo a C none)) dx (exd dx [(f, y)])) a (exo a C (some dx))) a) dx (.xd [(f, y)]) = upd H dx (.xd [(f, y)]) := by
    funext b
    by_cases h1 : b = dx
    · rw [h1, upd_same, upd_same]
    · rw [upd_ne h1, upd_ne h1]
      by_cases h2 : b = a
      · rw [h2, del_same, ha]
      · rw [del_ne h2, upd_ne h2, upd_ne h1, upd_ne h2]
  rw [same]
  exact k dx _ (Ex.new hn) hn upd_same
/-- the wish of a handler that takes it -/
theorem x_was {c : Value} {i : Nat} {ts : Addr → Value → Option Addr → TS} (h : PySem.W.exmOne K cls c = some true)
    (k : ∀ a, H a = none → ts a cls d { nx := fun σ' H' => D.nx (σ'.set i none) H', rt := D.rt, bk := fun σ' H' => D.bk (σ'.set i none) H', ct := fun σ' H' => D.ct (σ'.set i none) H' } (σ.set i (some (.ref a))) H) :
    WE (wAs K c i ts Wout D) σ cls d H := ⟨true, h, fun _ => k, fun z => nomatch z⟩
/-- isinstance(e, D), e the error held -/
theorem x_isX {C' : Addr} {b : Bool} (T : XC K C) (hd : d = none ∨ ∃ dd fs, d = some dd ∧ H dd = some (.xd fs)) (hk : PySem.W.kitOne K (.ref C) (.ref C') = some b) (k : Q (.bl b) H) :
    rIsX K (.ref C) d a [.ref a, .ref C'] H Q := ⟨C, .ref C', .ref C', b, rfl, T, hd, rfl, fun u h => h, hk, k⟩
/-- e.f -/
theorem x_xg {dd : Addr} {i : Nat} (hx : σ[i]? = some (some (.ref a))) (T : XC K C) (hno : PySem.W.findIn K (.ref C) f = some none) (hd : H dd = some (.xd [(f, y)])) (k : Q y H) : tXg K a (.ref C) (some dd) f (tVar i) σ H Q :=
  ⟨.ref a, hx, rfl, C, dd, [(f, y)], y, rfl, T, hno, rfl, hd, by simp [List.lookup], k⟩
/-! while -/
def GoOn (Pv : L2.St → Hp → Prop) (μ : L2.St → Hp → Nat) (m : Nat) (tb : TS) (D : Ends) (σ : L2.St) (H : Hp) : Prop :=
  ∃ N : L2.St → Hp → Prop, (∀ σ' H', N σ' H' → ∃ m', m' < m ∧ (m' = μ σ' H' ∧ Pv σ' H')) ∧ tb { D with nx := N, ct := N, bk := D.nx } σ H
theorem x_goOn {Pv : L2.St → Hp → Prop} {μ : L2.St → Hp → Nat} {m : Nat} {tb : TS}
    (k : tb { D with nx := fun σ' H' => Pv σ' H' ∧ μ σ' H' < m, ct := fun σ' H' => Pv σ' H' ∧ μ σ' H' < m, bk := D.nx } σ H) : GoOn Pv μ m tb D σ H :=
  ⟨_, fun σ' H' ⟨q, l⟩ => ⟨_, l, rfl, q⟩, k⟩
theorem x_while {tc : TT} {tb : TS} (Pv : L2.St → Hp → Prop) (μ : L2.St → Hp → Nat) (h0 : Pv σ H)
    (hs : ∀ σ H, Pv σ H → tc σ H fun b H1 => if b = true then GoOn Pv μ (μ σ H) tb D σ H1 else D.nx σ H1) : tWhile tc tb D σ H := by
  refine ⟨fun m σ H => m = μ σ H ∧ Pv σ H, ⟨_, rfl, h0⟩, ?_⟩
  rintro m σ H ⟨rfl, q⟩
  exact hs σ H q
end
/-! three names at once, lists turned about, dicts asked -/
section
variable {K : PySem.W.Frag} {σ : L2.St} {H H1 H2 : Hp} {Q : VK} {a p : Addr} {u v w z : V} {D : Ends} {te : TE}
theorem x_par3 {i j l : Nat} {ta : TA} (k : ta σ H fun vs H1 => ∃ u v w, vs = [u, v, w] ∧ D.nx (((σ.set i (some u)).set j (some v)).set l (some w)) H1) : tPar3 i j l ta D σ H := k
theorem x_ex_3 {R : V → V → V → Prop} (k : R u v w) : ∃ a b c, [u, v, w] = [a, b, c] ∧ R a b c := ⟨u, v, w, rfl, k⟩
def RevL (K : PySem.W.Frag) (x : V) (H1 : Hp) (Q : VK) : Prop := ∃ a xs, x = .ref a ∧ SqL K H1 a xs ∧ ∀ p, H1 p = none → Q (.ref p) (upd H1 p (.lst xs.reverse))
theorem x_revL0 (k : te σ H fun x H1 => RevL K x H1 Q) : tRevL K te σ H Q := k
theorem x_revL {xs : List V} (h : H a = some (.lst xs)) (k : JustNew (.lst xs.reverse) H Q) : RevL K (.ref a) H Q := ⟨a, xs, rfl, SqL.of h, k⟩
def DGo (y z : V) (a : Addr) (H3 : Hp) (Q : VK) : Prop := ∃ o, DGet H3 a y o ∧ Q (o.getD z) H3
def DIs (x : V) (H1 : Hp) (R : Addr → Prop) : Prop := ∃ a, x = .ref a ∧ IsD H1 a ∧ R a
theorem x_dget2 {td ty tx : TE} (k : td σ H fun x H1 => DIs x H1 fun a => ty σ H1 fun y H2 => tx σ H2 fun z H3 => DGo y z a H3 Q) : tDGet2 td ty tx σ H Q := k
theorem x_dis {kvs : List (Key × V)} {R : Addr → Prop} (h : H a = some (.dK kvs)) (k : R a) : DIs (.ref a) H R := ⟨a, rfl, .inl ⟨kvs, .inl h⟩, k⟩
theorem x_dgo {kvs : List (Key × V)} {s : Str} (h : H a = some (.dK kvs)) (e : (valV kvs (Sum.inr s)).getD z = w) (k : Q w H) : DGo (.str s) z a H Q := ⟨_, .inl ⟨kvs, .inr s, .inl h, rfl, rfl⟩, by rw [e]; exact k⟩
end
/-! a loop over a list that is known, turn by turn; append -/
section
variable {K : PySem.W.Frag} {σ : L2.St} {H H1 H2 : Hp} {Q : VK} {a l p : Addr} {u v w z : V} {D : Ends}
def Unr (a : Addr) (xs : List V) (j : Nat) (tb : TS) (D : Ends) : List V → L2.St → Hp → Prop
  | [], σ, H => D.nx σ H
  | v :: vs, σ, H => tb { D with nx := fun σ' H' => H' a = some (.lst xs) ∧ Unr a xs j tb D vs σ' H', ct := fun σ' H' => H' a = some (.lst xs) ∧ Unr a xs j tb D vs σ' H', bk := D.nx } (σ.set j (some v)) H
theorem for_unroll {xs : List V} {j : Nat} {tb : TS} (hx : H1 a = some (.lst xs)) (k : Unr a xs j tb D xs σ H1) : LK K (.ref a) H1 fun J H2 => ForGo J (gName j) tb D σ H2 := by
  refine for_lst hx (fun i σ H => H a = some (.lst xs) ∧ Unr a xs j tb D (xs.drop i) σ H) ⟨hx, k⟩ (fun i σ H _ h => h.1) ?_ ?_
  · intro i x σ H hi h
    obtain ⟨h1, h2⟩ := h
    have lt := (List.getElem?_eq_some_iff.mp hi).1
    have e : xs.drop i = x :: xs.drop (i + 1) := by
      rw [List.drop_eq_getElem_cons lt]
      congr 1
      exact (List.getElem?_eq_some_iff.mp hi).2
    rw [e] at h2
    exact h2
  · intro σ H h
    have := h.2
    rw [List.drop_length] at this
    exact this
theorem x_unr0 {xs : List V} {j : Nat} {tb : TS} (k : D.nx σ H) : Unr a xs j tb D [] σ H := k
theorem x_unr1 {xs vs : List V} {j : Nat} {tb : TS} (k : tb { D with nx := fun σ' H' => H' a = some (.lst xs) ∧ Unr a xs j tb D vs σ' H', ct := fun σ' H' => H' a = some (.lst xs) ∧ Unr a xs j tb D vs σ' H', bk := D.nx } (σ.set j (some v)) H) : Unr a xs j tb D (v :: vs) σ H := k
theorem x_append {xs : List V} (h : H l = some (.lst xs)) (n : xs.length < sizeLine) (k : Q .non (upd H l (.lst (xs ++ [v])))) : L2.rAppend (.ref l) [v] H Q := ⟨l, xs, v, rfl, rfl, h, n, k⟩
end
/-! == of any two of the kinds below, repr of these -/
section
variable {X : Cx}
def rEqAny (K : PySem.W.Frag) : R2 := fun x y H Q => rEq x y H Q ∨ rEqD K x y H Q ∨
  ∃ a b kvs, x = .ref a ∧ y = .ref b ∧ H a = some (.dK kvs) ∧ H b = some (.dK kvs) ∧ (kvs.map (·.1)).Nodup ∧ (∀ p ∈ kvs, flatB p.2 = true) ∧ Q (.bl true) H
theorem op_eqAny (hu : X.A.units + 64 < cLine) : OpR X (compareOp .Eq) (rEqAny X.K) := by
  intro pins s σ H x y v u Q I rx ry h
  rcases h with h | h | h
  · exact op_eq pins s σ H x y v u Q I rx ry h
  · exact op_eqD hu pins s σ H x y v u Q I rx ry h
  · exact op_eq_dict (by omega) pins s σ H x y v u Q I rx ry h
end
end Er

set_option Elab.async false
set_option maxRecDepth 100000
set_option maxHeartbeats 2000000
set_option linter.all false
/-! two that are alike: == says so, and repr shows the same -/
namespace Er
open PySem PySem.Spec PyProof.Rows L2 Sx
/-! repr, of a dict of one text and one int too -/
def rReprY (K : PySem.W.Frag) : List V → Hp → VK → Prop := fun xs H Q => Rv.rReprX K xs H Q ∨ ∃ (a : Addr) (z : Str) (i : Int), xs = [.ref a] ∧ H a = some (.dK [(Sum.inr z, .int i)]) ∧ i.natAbs.log2 < 1920 ∧
  (PyData.dict [(.str z, .int i)]).shown.length ≤ 1000 ∧ Q (.str (PyData.dict [(.str z, .int i)]).shown) H
theorem call_reprY {X : Cx} (hG : X.A.guards = some []) (hu : X.A.units + 64 < cLine) : CallR X (.builtin "repr") (rReprY X.K) := by
  intro pins s σ H xs us Q I r h
  rcases h with h | ⟨a, z, i, rfl, ha, hi, hl, q⟩
  · exact Rv.call_reprX hG hu pins s σ H xs us Q I r h
  · obtain ⟨u, rfl, ru⟩ := vals1 r
    cases ru
    have ok : ObjOk X.prog X.w H s.heap a (.dK [(Sum.inr z, .int i)]) := I.hok a _ ha
    obtain ⟨_, away, vs, kv, o, es, ep, at0, ex, dat, _, prs, _⟩ := ok
    have one : ∃ (e : DictEntry) (t t' : Tok), es.toList = [e] ∧ e.key = .str z t ∧ e.val = .int i t' := by
      generalize es.toList = l at prs
      cases kv with
      | @cons p q ps qs h1 h2 =>
        cases h2
        obtain ⟨h3, h4⟩ := h1
        obtain ⟨q1, q2⟩ := q
        dsimp only at h3 h4
        subst h3
        obtain ⟨t', rfl⟩ := h4
        cases prs with
        | @cons e kv2 es2 kvs2 hk hv hr =>
          cases hr
          have hk' : keyIs (Sum.inr z) e.key = true := hk
          rcases keyIs_shape hk' with ⟨j, t, e1, e2⟩ | ⟨x, t, e1, e2⟩
          · cases e1
          · injection e1 with e3
            subst e3
            exact ⟨e, t, t', rfl, e2, hv⟩
    obtain ⟨e, t, t', e1, e2, e3⟩ := one
    have rd : Reads s.heap (.ref a) (.dict [(.str z, .int i)]) (a :: ([] ++ []) ++ ([] ++ [])) := by
      refine .dict (kvs := [(.str z, .int i)]) at0 ex.1 dat ?_ ?_
      · rw [e1]
        show ReadsAll _ [e.key] [.str z] _
        rw [e2]
        exact .cons (.str z t) .nil
      · rw [e1]
        show ReadsAll _ [e.val] [.int i] _
        rw [e3]
        exact .cons (.int i t') .nil
    refine PySem.repr_of_reads' rd ?_ (fun _ m => ?_) hG ?_ (fun b o e => e) (fun h' u tk keep => ⟨.str _, H, I.kept keep, ⟨_, rfl⟩, q⟩) ?_
    · simp [PyData.showable, PyData.showableKv, hi]
    · rcases List.mem_singleton.mp (by simpa using m) with e
      rw [← e] at away
      simp at away
    · show X.A.units + (PyData.depth (.dict [(.str z, .int i)]) + 1) < cLine
      have : PyData.depth (.dict [(.str z, .int i)]) ≤ 2 := by simp [PyData.depth, PyData.depthKv]
      omega
    · exact Nat.le_trans hl (by decide)
structure Alike (K : PySem.W.Frag) (H : Hp) (v w : V) : Prop where
  eq : ∀ H1 Q, Ex H H1 → Q (.bl true) H1 → rEqAny K v w H1 Q
  rp : ∃ z, (∀ H1 Q, Ex H H1 → Q (.str z) H1 → rReprY K [v] H1 Q) ∧ ∀ H1 Q, Ex H H1 → Q (.str z) H1 → rReprY K [w] H1 Q
section
variable {K : PySem.W.Frag} {H H1 : Hp} {v w : V}
theorem Alike.mono (h : Alike K H v w) (e : Ex H H1) : Alike K H1 v w := by
  obtain ⟨a, z, b, c⟩ := h
  exact ⟨fun H2 Q f => a H2 Q (e.trans f), z, fun H2 Q f => b H2 Q (e.trans f), fun H2 Q f => c H2 Q (e.trans f)⟩
theorem shows {d : PyData} {b e : Nat} (h : DN H d v) (s : Sml b e d) (hb : b ≤ 100000) (he : e ≤ 40) : ∀ H1 Q, Ex H H1 → Q (.str d.shown) H1 → rReprY K [v] H1 Q :=
  fun H1 Q f q => .inl (.inl ⟨v, d, rfl, DN.dp _ _ (DN.mono f _ _ h), s.shw hb he, q⟩)
theorem Alike.of {d : PyData} {b e : Nat} (h1 : DN H d v) (h2 : DN H d w) (s : Sml b e d) (hb : b ≤ 100000) (he : e ≤ 40) : Alike K H v w := by
  refine ⟨?_, d.shown, shows h1 s hb he, shows h2 s hb he⟩
  intro H1 Q f q
  have g1 := DN.mono f _ _ h1
  have g2 := DN.mono f _ _ h2
  have er := SeqAt.eqv_refl d s.lay
  have sh : SeqAt.shaped d = true := by unfold SeqAt.shaped; rw [s.lay]; have := s.deep; simp; omega
  have deep : rEqAny K v w H1 Q := .inr (.inl ⟨d, d, DN.dp _ _ g1, DN.dp _ _ g2, sh, sh, by rw [er]; exact q⟩)
  exact deep
theorem Alike.dict0 {a : Addr} (h : H a = some (.dK [])) : Alike K H (.ref a) (.ref a) := by
  refine ⟨?_, (PyData.dict []).shown, ?_, ?_⟩
  · intro H1 Q f q
    have g := f.kp _ _ h NB.dK
    exact .inr (.inr ⟨a, a, [], rfl, rfl, g, g, .nil, (fun _ z => nomatch z), q⟩)
  all_goals
    intro H1 Q f q
    exact .inl (.inr ⟨a, rfl, f.kp _ _ h NB.dK, q⟩)
theorem Alike.dict1 {a : Addr} {z : Str} {i : Int} (h : H a = some (.dK [(Sum.inr z, .int i)])) (hi : i.natAbs.log2 < 1920) (hl : (PyData.dict [(.str z, .int i)]).shown.length ≤ 1000) : Alike K H (.ref a) (.ref a) := by
  refine ⟨?_, (PyData.dict [(.str z, .int i)]).shown, ?_, ?_⟩
  · intro H1 Q f q
    have g := f.kp _ _ h NB.dK
    refine .inr (.inr ⟨a, a, [(Sum.inr z, .int i)], rfl, rfl, g, g, by simp, ?_, q⟩)
    intro p m
    rw [List.mem_singleton.mp m]
    rfl
  all_goals
    intro H1 Q f q
    exact .inr ⟨a, z, i, rfl, f.kp _ _ h NB.dK, hi, hl, q⟩
end
section
variable {K : PySem.W.Frag} {H H1 : Hp} {v w : V} {a : Addr}
theorem dnInt {i : Int} : DN H (.int i) (.int i) := by rw [DN]
theorem dnBl {b : Bool} : DN H (.bool b) (.bl b) := by rw [DN]
theorem dnNon : DN H .none .non := by rw [DN]
theorem dnStr {z : Str} : DN H (.str z) (.str z) := by rw [DN]
theorem dnTup {xs : List V} {ds : List PyData} (h : H a = some (.tup xs)) (d : DNs H ds xs) : DN H (.tuple ds) (.ref a) := by rw [DN]; exact ⟨a, xs, rfl, h, d⟩
theorem dnLst {xs : List V} {ds : List PyData} (h : H a = some (.lst xs)) (nb : NB (.lst xs)) (d : DNs H ds xs) : DN H (.list ds) (.ref a) := by rw [DN]; exact ⟨a, xs, rfl, h, nb, d⟩
theorem dnNil : DNs H [] [] := by rw [DNs]
theorem dnCons {d : PyData} {ds : List PyData} {x : V} {xs : List V} (h : DN H d x) (r : DNs H ds xs) : DNs H (d :: ds) (x :: xs) := by rw [DNs]; exact ⟨x, xs, rfl, h, r⟩
/-- a thing that is alike itself -/
structure Both (K : PySem.W.Frag) (H : Hp) (v : V) : Prop where
  t : Thing K H v
  al : Alike K H v v
theorem Both.mono (h : Both K H v) (e : Ex H H1) : Both K H1 v := ⟨h.t.mono e, h.al.mono e⟩
theorem Both.of {d : PyData} {b e : Nat} (t : Thing K H v) (h : DN H d v) (s : Sml b e d) (hb : b ≤ 100000 := by decide) (he : e ≤ 40 := by decide) : Both K H v := ⟨t, .of h h s hb he⟩
theorem Both.int {i : Int} (h : i.natAbs < 10 ^ 59) : Both K H (.int i) := .of (.int i) dnInt (Sml.int h)
theorem Both.bl {b : Bool} : Both K H (.bl b) := .of (.bl b) dnBl Sml.bool
theorem Both.non : Both K H .non := .of .non dnNon Sml.none
theorem Both.str {z : Str} {n : Nat} (ok : PyData.strOk z = true) (h : (z.cps.toList.all fun c => decide (c < 16 ^ 8)) = true) (hn : z.cps.size ≤ n) (hb : n ≤ 100000) : Both K H (.str z) := .of (.str z) dnStr (Sml.str ok h hn) hb
theorem Both.dict0 (h : H a = some (.dK [])) : Both K H (.ref a) := ⟨.dK h, .dict0 h⟩
theorem Both.lst0 (h : H a = some (.lst [])) : Both K H (.ref a) := .of (.lst h (NB.len (by decide))) (dnLst h (NB.len (by decide)) dnNil) (Sml.lst (b := 0) (e := 0) (n := 0) (fun _ m => nomatch m) (Nat.le_refl _))
theorem Both.tup0 (h : H a = some (.tup [])) : Both K H (.ref a) := .of (.tup h) (dnTup h dnNil) (Sml.tup (b := 0) (e := 0) (n := 0) (fun _ m => nomatch m) (Nat.le_refl _))
theorem Both.dict1 {z : Str} {i : Int} (h : H a = some (.dK [(Sum.inr z, .int i)])) (hi : i.natAbs.log2 < 1920) (hl : (PyData.dict [(.str z, .int i)]).shown.length ≤ 1000) : Both K H (.ref a) := ⟨.dK h, .dict1 h hi hl⟩
theorem AllB.nil : ∀ v ∈ ([] : List V), Both K H v := fun _ h => nomatch h
theorem AllB.cons {v : V} {xs : List V} (t : Both K H v) (r : ∀ v ∈ xs, Both K H v) : ∀ u ∈ v :: xs, Both K H u := by
  intro u h
  rcases List.mem_cons.mp h with e | h
  · rw [e]; exact t
  · exact r u h
end
/-- text * int, the text told -/
def rMulS2 : R2 := fun x y H Q => ∃ (z : Str) (i : Int), x = .str z ∧ y = .int i ∧ z.length ≤ 16 ∧ 0 ≤ i ∧ i ≤ 1048576 ∧ Q (.str (Txt.mul z i)) H
theorem op_mulS2 {X : Cx} : OpR X (binaryOp .Mult) rMulS2 := by
  intro pins s σ H x y v u Q I rx ry h
  obtain ⟨z, i, rfl, rfl, hz, h0, h1, q⟩ := h
  obtain ⟨t, rfl⟩ := rx
  obtain ⟨t', rfl⟩ := ry
  exact PySem.W.KXi.mul rfl hz (by omega) h1 fun t2 k _ _ => ⟨.str _, H, I.tok _, ⟨_, rfl⟩, q⟩
theorem x_mulS2 {z : Str} {i : Int} {H : Hp} {Q : VK} (h : z.length ≤ 16) (h0 : 0 ≤ i) (h1 : i ≤ 1048576) (k : Q (.str (Txt.mul z i)) H) : rMulS2 (.str z) (.int i) H Q := ⟨z, i, rfl, rfl, h, h0, h1, k⟩
theorem unH {k : Nat} {A : Around} (r : L2H.RoomH k A) : A.units + 64 < cLine := by have := r.un; omega
theorem x_callSS {sp : Sp} {σ : L2.St} {H : Hp} {Q : VK} {E : L2.St → XK} {t : TA} (k : t σ H fun vs H1 => sp vs H1 Q (E σ)) : tCallS sp E t σ H Q := k
end Er

set_option Elab.async false
set_option maxRecDepth 100000
set_option maxHeartbeats 2000000
set_option linter.all false
/-! flat items: ints, truths, None, short texts -/
namespace Er
open PySem PySem.Spec PyProof.Rows L2 Sx
def strB (z : Str) : Bool := PyData.strOk z && ((z.cps.toList.all fun c => decide (c < 16 ^ 8)) && decide (z.cps.size ≤ 10))
def okF : V → Prop
  | .int i => i.natAbs < 10 ^ 59
  | .bl _ => True
  | .non => True
  | .str z => strB z = true
  | _ => False
def toD : V → PyData
  | .int i => .int i
  | .bl b => .bool b
  | .str z => .str z
  | _ => .none
theorem All.nil {α : Type} {p : α → Prop} : ∀ x ∈ ([] : List α), p x := fun _ h => nomatch h
theorem All.cons {α : Type} {p : α → Prop} {x : α} {xs : List α} (h : p x) (r : ∀ y ∈ xs, p y) : ∀ y ∈ x :: xs, p y := by
  intro y m
  rcases List.mem_cons.mp m with e | m
  · rw [e]; exact h
  · exact r y m
section
variable {K : PySem.W.Frag} {H H1 : Hp} {v : V} {p : Addr} {xs : List V}
theorem okF.dn (h : okF v) : DN H (toD v) v := by
  cases v with
  | int i => exact dnInt
  | bl b => exact dnBl
  | non => exact dnNon
  | str z => exact dnStr
  | _ => exact h.elim
theorem okF.sml (h : okF v) : Sml 10 0 (toD v) := by
  cases v with
  | int i => exact (Sml.int h).up (by decide) (by decide)
  | bl b => exact Sml.bool.up (by decide) (by decide)
  | non => exact Sml.none.up (by decide) (by decide)
  | str z =>
    have h : strB z = true := h
    unfold strB at h
    rw [Bool.and_eq_true, Bool.and_eq_true] at h
    exact Sml.str h.1 h.2.1 (of_decide_eq_true h.2.2)
  | _ => exact h.elim
theorem okF.th (h : okF v) : Thing K H v := by
  cases v with
  | int i => exact .int i
  | bl b => exact .bl b
  | non => exact .non
  | str z => exact .str z
  | _ => exact h.elim
theorem okF.both (h : okF v) : Both K H v := .of h.th h.dn h.sml
theorem okF.noref (h : okF v) (p : Addr) : v ≠ .ref p := by
  rintro rfl
  exact h
theorem dns_map : ∀ {xs : List V}, (∀ x ∈ xs, okF x) → DNs H (xs.map toD) xs
  | [], _ => dnNil
  | x :: xs, h => dnCons (h x (by simp)).dn (dns_map fun y m => h y (by simp [m]))
theorem sml_map (h : ∀ x ∈ xs, okF x) : ∀ d ∈ xs.map toD, Sml 10 0 d := by
  intro d m
  obtain ⟨x, hx, rfl⟩ := List.mem_map.mp m
  exact (h x hx).sml
theorem Both.tupF (hp : H p = some (.tup xs)) (h : ∀ x ∈ xs, okF x) (hl : xs.length ≤ 1000) : Both K H (.ref p) :=
  .of (.tup hp) (dnTup hp (dns_map h)) (Sml.tup (b := 10) (e := 0) (n := 1000) (sml_map h) (by rw [List.length_map]; exact hl))
theorem Both.lstF (hp : H p = some (.lst xs)) (nb : NB (.lst xs)) (h : ∀ x ∈ xs, okF x) (hl : xs.length ≤ 1000) : Both K H (.ref p) :=
  .of (.lst hp nb) (dnLst hp nb (dns_map h)) (Sml.lst (b := 10) (e := 0) (n := 1000) (sml_map h) (by rw [List.length_map]; exact hl))
theorem Deep.tupF (hp : H p = some (.tup xs)) (h : ∀ x ∈ xs, okF x) (e : Ex H H1) : Deep K H1 (.ref p) := Deep.tup (e.kp _ _ hp NB.tup) fun x m => (h x m).th
end
theorem Both.strMul {K : PySem.W.Frag} {H : Hp} {z : Str} {c : Nat} {n : Int} (hz : z = ⟨#[c]⟩) (hc : c < 0x110000) (hn : n.toNat ≤ 100000) : Both K H (.str (Txt.mul z n)) := by
  subst hz
  have e := PyProof.Rows.mul_one_list c n
  refine Both.str (n := n.toNat) ?_ ?_ ?_ hn
  · unfold PyData.strOk
    rw [← Array.all_toList, e]
    simp [hc]
  · rw [e]
    simp
    omega
  · rw [← Array.length_toList, e]
    simp
end Er

set_option Elab.async false
set_option linter.all false
set_option maxRecDepth 100000
set_option maxHeartbeats 2000000
namespace Ow
open PySem PySem.Spec PyProof.Rows L2 ItX

/-! ### t[a:b].index(i), the slice two ints -/
def twO (f g : Int) (t u : Tok) (n : Nat) : Obj := { cls := .type "tuple", data := .seq #[.int f t, .int g u] n }
def TwE (p : Addr) (f g : Int) : HO := .ext fun h => ∃ (t u : Tok) (n : Nat), h.get? p = some (twO f g t u n)
theorem twE_ok {P : Program} {w : World} {H : Hp} {h : Heap} {p : Addr} {f g : Int} {t u : Tok} {n : Nat} (e : h.get? p = some (twO f g t u n)) : ObjOk P w H h p (TwE p f g) :=
  ⟨⟨t, u, n, e⟩, ⟨_, e⟩, fun _ _ ⟨t, u, n, q⟩ k => ⟨t, u, n, k _ q⟩⟩
def rSlTE (K : PySem.W.Frag) : V → Option Int → Option Int → Hp → VK → Prop := fun x lo hi H Q => ∃ (a : Addr) (xs : List V) (f g : Int), x = .ref a ∧ SqT K H a xs ∧
  ¬ (HT.sIx xs.length 0 lo = 0 ∧ HT.sIx xs.length xs.length hi = xs.length) ∧ cutV xs lo hi = [.int f, .int g] ∧ ∀ p, H p = none → Q (.ref p) (upd H p (TwE p f g))
theorem sl_tupE {X : Cx} : SlR X (rSlTE X.K) := by
  rintro pins s σ H x v vl vu lo hi sl Q I rx hs pl pu ⟨a, xs, f, g, rfl, hx, hw, hc, q⟩
  cases rx
  obtain ⟨its, r, ht, hz⟩ := I.tuple hx
  have hlen : its.toArray.size = xs.length := by rw [List.size_toArray]; exact r.length.symm
  refine ⟨"tuple", "tuple.__getitem__", PyProof.Rows.slot_tuple_getitem.lookup, ht.typeIs, HT.getItem_tuple_cut ht hs pl pu (by rw [hlen]; exact hw) ?_ (by rw [hlen]; exact hz)⟩
  rw [hlen]
  have rv : Vals (cutV xs lo hi) (((its.drop (HT.sIx xs.length 0 lo))).take (HT.sIx xs.length xs.length hi - HT.sIx xs.length 0 lo)) := Vals.take _ (Vals.drop _ r)
  rw [hc] at rv
  generalize hy : ((its.drop (HT.sIx xs.length 0 lo))).take (HT.sIx xs.length xs.length hi - HT.sIx xs.length 0 lo) = ys at rv
  cases rv with
  | cons r1 rv2 =>
    cases rv2 with
    | cons r2 rv3 =>
      cases rv3
      obtain ⟨t, rfl⟩ := r1
      obtain ⟨u, rfl⟩ := r2
      refine ⟨.ref s.heap.objs.size, _, I.laid (t' := s.toks) (fun b ob e => Heap.get?_push_of_some _ e) (Nat.le_refl _) (twE_ok (t := t) (u := u) (n := 0) ?_), rfl, q _ (I.hok.fresh (Nat.le_refl _))⟩
      exact Heap.get?_push_size _ rfl
def tyE : V → Hp → Prop := fun x H => ∃ (p : Addr) (f g : Int), x = .ref p ∧ H p = some (TwE p f g)
theorem tyE_ok {X : Cx} : TyOk X "tuple" tyE := by
  rintro pins σ H s x v I rx ⟨p, f, g, rfl, h⟩
  cases rx
  obtain ⟨t, u, n, e⟩ := (I.hok p _ h).1
  exact ⟨⟨_, e, rfl⟩, fun a ea => by cases ea; exact ⟨_, e, rfl⟩⟩
def rIndexE : V → List V → Hp → VK → Prop := fun x xs H Q => ∃ (p : Addr) (f g i : Int), x = .ref p ∧ xs = [.int i] ∧ H p = some (TwE p f g) ∧ (i = f → Q (.int 0) H) ∧ (i ≠ f → i = g ∧ Q (.int 1) H)
theorem mt_indexE {X : Cx} : MtR X "tuple.index" rIndexE := by
  rintro pins s σ H x xs v us Q I rx rs ⟨p, f, g, i, rfl, rfl, h, q0, q1⟩
  cases rx
  obtain ⟨z, rfl, ru⟩ := vals1 rs
  obtain ⟨tz, rfl⟩ := ru
  obtain ⟨t, u, n, e⟩ := (I.hok p _ h).1
  have eqa : ∀ y ∈ (#[Value.int f t, Value.int g u] : Array Value), SeqAt.EqAt X.A.in1 s y (.int i tz) (match y with | .int a _ => a == i | _ => false) := by
    intro y hy
    simp at hy
    rcases hy with rfl | rfl
    · exact SeqAt.EqAt.int_int _ _ _ _
    · exact SeqAt.EqAt.int_int _ _ _ _
  by_cases hi : i = f
  · exact call_meets F.slot_tuple_index ⟨_, e, rfl⟩ F.entry_tuple_index (F.args_tuple_index_2 (Value.ref p) (Value.int i tz))
      (TI.tuple_indexAt p _ n none #[] (Value.int i tz) (fun y => match y with | .int a _ => a == i | _ => false) 0 (by simp) (by simp [hi]) (fun m hm hmj => absurd hmj (Nat.not_lt_zero _)))
      ⟨e, eqa, .int 0, H, I.tok _, ⟨_, rfl⟩, q0 hi⟩
  · obtain ⟨hg, q⟩ := q1 hi
    exact call_meets F.slot_tuple_index ⟨_, e, rfl⟩ F.entry_tuple_index (F.args_tuple_index_2 (Value.ref p) (Value.int i tz))
      (TI.tuple_indexAt p _ n none #[] (Value.int i tz) (fun y => match y with | .int a _ => a == i | _ => false) 1 (by simp) (by simp [hg]) (fun m hm hmj => by
        have : m = 0 := by omega
        subst this
        simp; exact fun e => hi e.symm))
      ⟨e, eqa, .int 1, H, I.tok _, ⟨_, rfl⟩, q⟩
end Ow

set_option Elab.async false
set_option linter.all false
set_option maxRecDepth 100000
set_option maxHeartbeats 2000000
namespace Ow
open PySem PySem.Spec PyProof.Rows L2 ItX
/-! ### == by an own __eq__, with both answers -/
/-- what stands on the other side: of the class itself, or of a class that is no child of it -/
def Oth (X : Cx) (C : Addr) (y : V) (H : Hp) : Prop := ∀ (pins : List (Addr × Obj)) (σ : L2.St) (s : Shared) (v : Value), L2.Inv X pins σ H s → RelV y v → ∃ tb, W.Looks (model X.prog X.w) s.heap (typeOf v) tb ∧ W.notFirst X.K C tb = true
def rEqC (X : Cx) (C : Addr) (sp : Sp) (E : XK) : R2 := fun x y H Q => ∃ (a dx : Addr) (fs : List (Str × V)), x = .ref a ∧ H a = some (.ins C dx fs) ∧ Oth X C y H ∧ sp [x, y] H (fun v H' => (∃ b, v = .bl b) ∧ Q v H') E
theorem op_eqOwn {X : Cx} {n : Nat} {CX : CXT} {C f : Addr} {fd : FuncData} {ps : List Str} {sp : Sp} {E : XK} (F : FnOk X.prog X.w X.K X.mg X.base CX n f fd ps sp)
    (hs : W.findIn X.K (Value.ref C) (Str.ofString "__eq__") = some (some (Value.ref f))) (hf : W.isFn X.K (Value.ref f) = true) (hb : Binds X.K fd ps []) (hx : Passes CX X E) (hr : Room n X.A) : OpR X (compareOp .Eq) (rEqC X C sp E) := by
  rintro pins s σ H x y v u Q I rx ry ⟨a, dx, fs, rfl, ha, ho, hsp⟩
  cases rx
  obtain ⟨tb, lk, nf⟩ := ho pins σ s u I ry
  obtain ⟨mA, J, _⟩ := ins_get I.hok ha
  obtain ⟨od, J, _⟩ := ObjM.look J
  obtain ⟨m, hF⟩ := Inv.fr I
  show wpAny _ _ (richCompare .Eq _ _) _ _ _
  refine W.cmp_K hr.units0 hF I.ok.mod.kin J lk nf hs hf ?_
  have hl := F.len _ _ _ _ hsp
  have r2 : Vals [V.ref a, y] [Value.ref a, u] := Paired.cons rfl (Paired.cons ry Paired.nil)
  have bi := hb s [Value.ref a, u] I.kIn (by simpa using hl)
  rw [List.append_nil] at bi
  refine wpAny_call (codeAny_mono (F.run X.A X.stack s H { pos := [Value.ref a, u] } [Value.ref a, u] [V.ref a, y] _ E hr I.env0 bi r2 hsp) fun r s' hq => ?_)
  cases r with
  | error e => exact hx pins σ H s e s' I hq
  | ok fl =>
    cases fl with
    | ret w =>
      obtain ⟨z, H', I', rz, ⟨b, ez⟩, q⟩ := Inv.after I hq
      subst ez
      cases rz
      exact ⟨.bl b, H', I', rfl, q⟩
    | _ => exact hq.elim
end Ow

set_option Elab.async false
set_option linter.all false
set_option maxRecDepth 100000
set_option maxHeartbeats 2000000
namespace Ow
open PySem PySem.Spec PyProof.Rows L2 ItX
theorem ifBound_objNe {M : Model} {A : Around} {E : Value → Shared → Prop} {s : Shared} {K : W.Frag} {x C : Addr} {ox : Obj} {od : Option Obj} {args : List Value} {Q : Option Value → Shared → Prop} (X : K.In s.heap) (I : W.InstAt s.heap x ox C od)
    (hs : W.findIn K (Value.ref C) (Str.ofString "__ne__") = some (some (Value.builtin "object.__ne__"))) (h : wpAny M A (call (Value.builtin "object.__ne__") (Value.ref x :: args)) (fun v => Q (some v)) E s) :
    wpAny M A (callSpecialIfBound? (Value.ref x) (Str.ofString "__ne__") args) Q E s := by
  have fin := wpAny_bind (f := fun v => (pure (some v) : Sem (Option Value))) (wpAny_mono h (fun v s' h' => wpAny_pure h') fun x x_1 h' => h')
  unfold callSpecialIfBound?
  refine wpAny_holding ?_
  refine wpAny_bind (wpAny_bind (wpAny_bind (W.Looks.here (W.InstAt.type I) (W.Looks.here (W.looks_findIn X hs) (wpAny_bind (wpAny_askSetting (wpAny_ite ?_)))))))
  split
  · refine wpAny_bind (wpAny_of_eq (F.slot_object_ne.bind (Value.ref x)) (wpAny_pure fin))
  · refine wpAny_tryCatch (wpAny_bind (wpAny_of_eq (F.slot_object_ne.bind (Value.ref x)) (wpAny_pure fin)))

theorem rc_objNe {prog : Program} {w : World} {A : Around} {E : Value → Shared → Prop} {s : Shared} {K : W.Frag} {x C : Addr} {ox : Obj} {od : Option Obj} {b tb : Value} {Q : Value → Shared → Prop} (hu : A.units < cLine) (X : K.In s.heap) (I : W.InstAt s.heap x ox C od)
    (hb : W.Looks (model prog w) s.heap (typeOf b) tb) (hn : W.notFirst K C tb = true) (hs : W.findIn K (Value.ref C) (Str.ofString "__ne__") = some (some (Value.builtin "object.__ne__")))
    (h : wpAny (model prog w) A (call (Value.builtin "object.__ne__") [Value.ref x, b]) (fun v s' => (∃ c, v = .bool c) ∧ Q v s') E s) :
    wpAny (model prog w) A (richCompare .NotEq (Value.ref x) b) Q E s := by
  have one : wpAny (model prog w) A (tryCompare (Value.ref x) (Str.ofString "__ne__") b) (fun r s' => ∃ v, r = some v ∧ Q v s') E s := by
    unfold tryCompare
    refine wpAny_bind (ifBound_objNe X I hs (wpAny_mono h (fun v s' hv => ?_) fun _ _ e => e))
    obtain ⟨⟨c, rfl⟩, q⟩ := hv
    exact wpAny_pure ⟨_, rfl, q⟩
  have ot : oneThing? .NotEq (Value.ref x) b = none := by cases b <;> rfl
  unfold richCompare
  refine wpAny_holding (wpAny_bind (wpAny_cRoomFor hu ?_))
  rw [ot]
  refine wpAny_bind (W.Looks.here I.type (wpAny_bind (W.Looks.here hb ?_)))
  have fin : wpAny (model prog w) A (tryCompare (Value.ref x) (Str.ofString "__ne__") b >>= fun r => match r with
      | some v => pure v
      | x_1 => (do
        if (!false) = true then do
          let r ← tryCompare b (Str.ofString "__ne__") (Value.ref x)
          match r with
          | some v => pure v
          | x_2 => do
            rule "compare.ne-identity"
            let r ← isSame (Value.ref x) b
            pure (Value.bool !r)
        else do
          rule "compare.ne-identity"
          let r ← isSame (Value.ref x) b
          pure (Value.bool !r))) Q E s := by
    refine wpAny_bind (wpAny_mono one (fun r s' hv => ?_) fun _ _ e => e)
    obtain ⟨v, rfl, q⟩ := hv
    exact wpAny_pure q
  by_cases he : (Value.ref C != tb) = true
  · rw [if_pos he]
    have hsub : W.subIn K tb (Value.ref C) = some false := by
      unfold W.notFirst at hn
      rw [Bool.or_eq_true] at hn
      rcases hn with e | e
      · have : Value.ref C = tb := (eq_of_beq e).symm
        subst this
        simp at he
      · exact eq_of_beq e
    refine wpAny_bind (W.Looks.here (W.looks_subIn X hsub) ?_)
    exact fin
  · rw [if_neg he]
    refine wpAny_bind (wpAny_pure ?_)
    exact fin

def rNeC (X : Cx) (C : Addr) (sp : Sp) (E : XK) : R2 := fun x y H Q => ∃ (a dx : Addr) (fs : List (Str × V)), x = .ref a ∧ H a = some (.ins C dx fs) ∧ Oth X C y H ∧ sp [x, y] H (fun v H' => ∃ b, v = .bl b ∧ Q (.bl (!b)) H') E
theorem op_neOwn {X : Cx} {n : Nat} {CX : CXT} {C f : Addr} {fd : FuncData} {ps : List Str} {sp : Sp} {E : XK} (F : FnOk X.prog X.w X.K X.mg X.base CX n f fd ps sp)
    (hs : W.findIn X.K (Value.ref C) (Str.ofString "__eq__") = some (some (Value.ref f))) (hf : W.isFn X.K (Value.ref f) = true) (hb : Binds X.K fd ps []) (hx : Passes CX X E) (hr : Room (n + 1) X.A)
    (hne : W.findIn X.K (Value.ref C) (Str.ofString "__ne__") = some (some (Value.builtin "object.__ne__"))) (hm : W.mroIn X.K C (Value.type "object") = some true) : OpR X (compareOp .NotEq) (rNeC X C sp E) := by
  rintro pins s σ H x y v u Q I rx ry ⟨a, dx, fs, rfl, ha, ho, hsp⟩
  cases rx
  obtain ⟨tb, lk, nf⟩ := ho pins σ s u I ry
  obtain ⟨mA, J, _⟩ := ins_get I.hok ha
  obtain ⟨od, J, _⟩ := ObjM.look J
  show wpAny _ _ (richCompare .NotEq _ _) _ _ _
  refine rc_objNe hr.units0 I.kIn J lk nf hne ?_
  refine wpAny_call (codeAny_call_builtin PySem.F.slot_object_ne.plain PySem.F.entry_object_ne (W.check_slot (owner := "object") (n := "__ne__") (by decide +kernel) (by decide +kernel) (W.Looks.andThen (W.InstAt.type J) (W.looks_mroIn I.kIn hm)) (PySem.F.args_object_ne_2 _ _) ?_))
  unfold Builtin.«object.__ne__»
  refine wpAny_bind (m := slotArgs "__ne__" 1 _) (wpAny_of_eq (a := (Value.ref a, [u])) (by first | rfl | kernel_rfl!) ?_)
  refine wpAny_bind (wpAny_cRoomFor hr.in1.units0 ?_)
  have hl := F.len _ _ _ _ hsp
  have r2 : Vals [V.ref a, y] [Value.ref a, u] := Paired.cons rfl (Paired.cons ry Paired.nil)
  have bi := hb s [Value.ref a, u] I.kIn (by simpa using hl)
  rw [List.append_nil] at bi
  have e := I.env0
  have e0 : Env0 X.prog X.w X.K X.mg X.base X.A.in1 X.stack s H := { frames := e.frames, mod := e.mod, bs := e.bs, bsz := e.bsz, funs := e.funs, frf := e.frf, hok := e.hok, bare := e.bare }
  refine wpAny_bind (W.ifBound_K I.kIn J hs hf (wpAny_call (codeAny_mono (F.run X.A.in1 X.stack s H { pos := [Value.ref a, u] } [Value.ref a, u] [V.ref a, y] _ E hr.in1 e0 bi r2 hsp) fun r s' hq => ?_)))
  cases r with
  | error e => exact hx pins σ H s e s' I hq
  | ok fl =>
    cases fl with
    | ret w =>
      obtain ⟨z, H', I', rz, ⟨b, ez, q⟩⟩ := Inv.after I hq
      subst ez
      cases rz
      refine wpAny_bind (wpAny_truthy_bool ?_)
      exact wpAny_pure ⟨⟨_, rfl⟩, .bl (!b), H', I', rfl, q⟩
    | _ => exact hq.elim
end Ow

set_option Elab.async false
set_option linter.all false
set_option maxRecDepth 100000
set_option maxHeartbeats 2000000
namespace Ow
open PySem PySem.Spec PyProof.Rows L2 ItX
/-! ### len(o) by an own __len__ -/
def rLenC (X : Cx) (C : Addr) (sp : Sp) (E : XK) : List V → Hp → VK → Prop := fun xs H Q => ∃ (a dx : Addr) (fs : List (Str × V)), xs = [.ref a] ∧ H a = some (.ins C dx fs) ∧ sp [.ref a] H (fun v H' => ∃ n : Int, v = .int n ∧ 0 ≤ n ∧ n < 2 ^ 63 ∧ Q (.int n) H') E
theorem call_lenOwn {X : Cx} {n : Nat} {CX : CXT} {C f : Addr} {fd : FuncData} {ps : List Str} {sp : Sp} {E : XK} (F : FnOk X.prog X.w X.K X.mg X.base CX n f fd ps sp)
    (hs : W.findIn X.K (Value.ref C) (Str.ofString "__len__") = some (some (Value.ref f))) (hf : W.isFn X.K (Value.ref f) = true) (hb : Binds X.K fd ps []) (hx : Passes CX X E) (hr : Room (n + 1) X.A) : CallR X (.builtin "len") (rLenC X C sp E) := by
  rintro pins s σ H xs us Q I r ⟨a, dx, fs, rfl, ha, hsp⟩
  obtain ⟨u, rfl, ru⟩ := vals1 r
  cases ru
  obtain ⟨mA, J, _⟩ := ins_get I.hok ha
  obtain ⟨od, J, _⟩ := ObjM.look J
  obtain ⟨m, hF⟩ := Inv.fr I
  refine W.len_K hF I.ok.mod.kin J hs hf ?_
  have hl := F.len _ _ _ _ hsp
  have r2 : Vals [V.ref a] [Value.ref a] := Paired.cons rfl Paired.nil
  have bi := hb s [Value.ref a] I.kIn (by simpa using hl)
  rw [List.append_nil] at bi
  have e := I.env0
  have e0 : Env0 X.prog X.w X.K X.mg X.base X.A.in1 X.stack s H := { frames := e.frames, mod := e.mod, bs := e.bs, bsz := e.bsz, funs := e.funs, frf := e.frf, hok := e.hok, bare := e.bare }
  refine wpAny_call (codeAny_mono (F.run X.A.in1 X.stack s H { pos := [Value.ref a] } [Value.ref a] [V.ref a] _ E hr.in1 e0 bi r2 hsp) fun r s' hq => ?_)
  cases r with
  | error e => exact hx pins σ H s e s' I hq
  | ok fl =>
    cases fl with
    | ret w =>
      obtain ⟨z, H', I', rz, ⟨k, ez, k0, k1, q⟩⟩ := Inv.after I hq
      subst ez
      obtain ⟨t, rfl⟩ := rz
      exact ⟨⟨k0, k1⟩, .int k, H', I'.tok _, ⟨_, rfl⟩, q⟩
    | _ => exact hq.elim
end Ow

set_option Elab.async false
set_option linter.all false
set_option maxRecDepth 100000
set_option maxHeartbeats 2000000
namespace Ow
open PySem PySem.Spec PyProof.Rows L2 ItX
/-! ### list(o), o of a class whose __iter__ hands a tuple's iterator out and that has a __len__ -/
def rListC (X : Cx) (C : Addr) (fld : Str) (spL : Sp) : List V → Hp → VK → Prop := fun xs H Q => ∃ (a dx : Addr) (fs : List (Str × V)) (l : Addr) (zs : List V), xs = [.ref a] ∧ H a = some (.ins C dx fs) ∧ fs.lookup fld = some (.ref l) ∧ SqT X.K H l zs ∧
  (∀ H1, H1 a = some (.ins C dx fs) → SqT X.K H1 l zs → spL [.ref a] H1 (fun v H' => v = .int zs.length ∧ H' = H1) fun _ _ _ => False) ∧ ∀ p, H p = none → Q (.ref p) (upd H p (.lst zs))
theorem sqT_upd {K : W.Frag} {H : Hp} {l p : Addr} {zs : List V} {o : HO} (h : SqT K H l zs) (n : H p = none) : SqT K (upd H p o) l zs := by
  refine h.imp (fun r => ?_) id
  have up : ∀ {u : HO}, H l = some u → upd H p o l = some u := fun e => by rw [upd_ne (ne_of_none e n)]; exact e
  rcases r with r | ⟨ob, r⟩
  · exact .inl (up r)
  · exact .inr ⟨ob, up r⟩
theorem call_listC {X : Cx} {n k : Nat} {C f fi : Addr} {fd fdI : FuncData} {ps : List Str} {spL : Sp} {fld x qual p1 : Str} {st : Stmt} {N : List Str}
    (FI : Fun X.K x qual st fi fdI) (Sc : FnScope N [p1] (defScope st)) (bI : Binds X.K fdI [p1] []) (D : ItDef X.prog X.w X.K X.mg X.base k C fi fld qual st N) (hrI : Room (k + 3) X.A) (hxI : Passes CX0 X fun _ _ _ => False)
    (hit : W.findIn X.K (.ref C) "__iter__" = some (some (.ref fi))) (hitF : W.isFn X.K (.ref fi) = true)
    (F : FnOk X.prog X.w X.K X.mg X.base CX0 n f fd ps spL) (hs : W.findIn X.K (.ref C) "__len__" = some (some (.ref f))) (hf : W.isFn X.K (.ref f) = true) (hb : Binds X.K fd ps []) (hr : Room (n + 3) X.A) : CallR X (.type "list") (rListC X C fld spL) := by
  rintro pins s σ H xs us Q I r ⟨a, dx, fs, l, zs, rfl, ha, hfl, hz, hlen, q⟩
  obtain ⟨u, rfl, ru⟩ := vals1 r
  cases ru
  obtain ⟨its, rv, pt, hsz⟩ := I.tuple hz
  have hl := rv.length
  refine callType_codes (Q₁ := fun obj s₁ => obj = .ref s.heap.objs.size ∧ s₁ = { s with heap := s.heap.push { cls := .type "list", data := .seq #[] } }) PySem.F.called_list (PySem.F.typeCall_list_1 _) PySem.F.entry_list_init (code_list_new _ ⟨rfl, rfl⟩) fun obj s₁ h₁ => ?_
  obtain ⟨rfl, rfl⟩ := h₁
  have hS : (s.heap.push { cls := .type "list", data := .seq #[] }).get? s.heap.objs.size = some { cls := .type "list", data := .seq #[] } := Heap.get?_push_size _ rfl
  refine ⟨⟨_, hS, rfl⟩, PySem.F.args_list_init_2 _ _, ?_⟩
  show wpAny _ X.A.in1.in1 (do let old ← Builtin.List.listItems (.ref s.heap.objs.size); Builtin.List.listUpdate (.ref s.heap.objs.size) (fun _ => #[]); letGo old.toList.reverse; Builtin.List.listExtendWith (.ref s.heap.objs.size) (.ref a) .none) _ _ _
  refine wpAny_bind ?_
  unfold Builtin.List.listItems
  refine wpAny_bind (wpAny_seqItems hS rfl (wpAny_pure ?_))
  show wpAny _ X.A.in1.in1 (updateSeq s.heap.objs.size (fun _ => #[]) >>= fun _ => letGo (#[] : Array Value).toList.reverse >>= fun _ => Builtin.List.listExtendWith (.ref s.heap.objs.size) (.ref a) .none) _ _ _
  refine wpAny_bind (wpAny_updateSeq hS rfl ?_)
  have hS2 := Heap.get?_update_self (Obj.mapSeq (fun _ => (#[] : Array Value))) hS rfl
  refine wpAny_bind (wpAny_letGo ?_)
  have up : ∀ (h : Heap) (f : Obj → Obj), (∀ b o, s.heap.get? b = some o → h.get? b = some o) → ∀ b o, s.heap.get? b = some o → (h.update s.heap.objs.size f).get? b = some o := fun h f q b o e =>
    (Heap.get?_update_other _ _ (Ne.symm (Nat.ne_of_lt (Heap.lt_size e)))).trans (q b o e)
  have k1 : ∀ b o, s.heap.get? b = some o → (s.heap.push { cls := .type "list", data := .seq #[] }).get? b = some o := fun b o e => Heap.get?_push_of_some _ e
  have k2 := up _ (Obj.mapSeq (fun _ => (#[] : Array Value))) k1
  generalize ((s.heap.push { cls := .type "list", data := .seq #[] }).update s.heap.objs.size (Obj.mapSeq (fun _ => (#[] : Array Value)))) = h2 at hS2 k2 ⊢
  have hnS : H s.heap.objs.size = none := I.hok.fresh (Nat.le_refl _)
  have I1 : L2.Inv X pins σ (upd H s.heap.objs.size (.lst [])) { s with heap := h2 } := I.laid (t' := s.toks) k2 (Nat.le_refl _) ⟨Nat.zero_le _, [], _, .nil, by rw [hS2]; rfl⟩
  have haS : a ≠ s.heap.objs.size := ne_of_none ha hnS
  have ha1 : upd H s.heap.objs.size (.lst []) a = some (.ins C dx fs) := by rw [upd_ne haS]; exact ha
  have hz1 : SqT X.K (upd H s.heap.objs.size (.lst [])) l zs := sqT_upd hz hnS
  have szS : X.s_0.heap.objs.size ≤ s.heap.objs.size := I.sz
  have sz2 : X.s_0.heap.objs.size ≤ h2.objs.size := I1.sz
  generalize s.heap.objs.size = S at haS ha1 hz1 hnS I1 hS2 szS ⊢
  generalize hH1 : upd H S (.lst []) = H1 at ha1 hz1 I1
  have hS1 : H1 S = some (.lst []) := by rw [← hH1]; exact upd_same
  generalize hs1 : ({ s with heap := h2 } : Shared) = s1 at I1 ⊢
  have hS2 : s1.heap.get? S = some (Obj.mapSeq (fun _ => (#[] : Array Value)) { cls := .type "list", data := .seq #[] }) := by rw [← hs1]; exact hS2
  have sz2 : X.s_0.heap.objs.size ≤ s1.heap.objs.size := by rw [← hs1]; exact sz2
  clear k1 k2 up
  unfold Builtin.List.listExtendWith
  obtain ⟨mA, J, _⟩ := ins_get I1.hok ha1
  obtain ⟨od, J, _⟩ := J.look
  obtain ⟨m, hF⟩ := I1.fr
  refine wpAny_bind (J.type.here ?_)
  have h1 : Builtin.List.listSameRef (.ref S) (.ref a) = false := by simp [Builtin.List.listSameRef, Ne.symm haS]
  have t1 : (Value.ref C == Value.type "list") = false := rfl
  have t2 : (Value.ref C == Value.type "tuple") = false := rfl
  simp only [h1, t1, t2, Bool.or_false, Bool.false_eq_true, if_false]
  have one : Vals [V.ref a] [Value.ref a] := .cons rfl .nil
  have bb : BindsTo s1 fdI ⟨[.ref a], []⟩ ([p1].zip [Value.ref a]) := by
    have b := bI s1 [.ref a] I1.kIn rfl
    simpa using b
  have e := I1.env0
  have e0 : Env0 X.prog X.w X.K X.mg X.base X.A.in1.in1 X.stack s1 H1 := { frames := e.frames, mod := e.mod, bs := e.bs, bsz := e.bsz, funs := e.funs, frf := e.frf, hok := e.hok, bare := e.bare }
  have hrI2 : Room (k + 1) X.A.in1.in1 := hrI.in1.in1
  have go := fn_at (CX := CX0) (E := fun _ _ _ => False) (Q := fun v H' => ∃ it, v = .ref it ∧ H1 it = none ∧ s1.heap.objs.size ≤ it ∧ H' = upd H1 it (ItT l it)) FI Sc (vs := [.ref a]) rfl hrI2 e0 bb one fun cdv => by
    obtain ⟨t, pt, qt⟩ := D cdv X.A.in1.in1 X.stack s1 H1 (fun _ _ _ => False) a dx fs l zs (fun v H' => ∃ it, v = .ref it ∧ H1 it = none ∧ s1.heap.objs.size ≤ it ∧ H' = upd H1 it (ItT l it)) (hrI2.deeper _) ha1 hfl hz1 fun it n o => ⟨it, rfl, n, o, rfl⟩
    exact ⟨t, pt.nox, qt⟩
  refine wpAny_bind (PySem.W.owit_iter hF I1.ok.mod.kin J hit hitF (wpAny_call (codeAny_mono go fun r s2 hq => ?_)))
  cases r with
  | error er =>
    exact hxI pins σ H1 s1 er s2 I1 hq
  | ok fl =>
    cases fl with
    | next => exact False.elim hq
    | brk => exact False.elim hq
    | cont => exact False.elim hq
    | ret u =>
      obtain ⟨_, _, I2, rv2, it, rfl, en, old, rfl⟩ := I1.after hq
      cases rv2
      have g : s2.heap.get? it = some (itT l) := (I2.hok it (ItT l it) upd_same).1
      have hT : s2.TypeIs (.ref it) "tuple_iterator" := ⟨_, g, rfl⟩
      refine wpAny_specialOf hT PySem.F.slot_tuple_iterator_next.lookup ?_
      have hai : a ≠ it := ne_of_none ha1 en
      have ha2 : upd H1 it (ItT l it) a = some (.ins C dx fs) := by rw [upd_ne hai]; exact ha1
      have hz2 : SqT X.K (upd H1 it (ItT l it)) l zs := sqT_upd hz1 en
      have hS3 : upd H1 it (ItT l it) S = some (.lst []) := by rw [upd_ne (ne_of_none hS1 en)]; exact hS1
      generalize hH2 : upd H1 it (ItT l it) = H2 at I2 ha2 hz2 hS3
      refine wpAny_bind (wpAny_holding ?_)
      unfold Builtin.List.listLengthHint
      obtain ⟨mA2, J2, _⟩ := ins_get I2.hok ha2
      obtain ⟨od2, J2, _⟩ := J2.look
      obtain ⟨m2, hF2⟩ := I2.fr
      refine wpAny_bind (wpAny_bind (J2.type.here ((W.looks_findIn I2.kIn hs).here ?_)))
      have e2 := I2.env0
      have e3 : Env0 X.prog X.w X.K X.mg X.base X.A.in1.in1.in1 X.stack s2 H2 := { frames := e2.frames, mod := e2.mod, bs := e2.bs, bsz := e2.bsz, funs := e2.funs, frf := e2.frf, hok := e2.hok, bare := e2.bare }
      have hsp := hlen H2 ha2 hz2
      have one2 : Vals [V.ref a] [Value.ref a] := .cons rfl .nil
      have hl2 := F.len _ _ _ _ hsp
      have bi := hb s2 [Value.ref a] I2.kIn (by simpa using hl2)
      rw [List.append_nil] at bi
      have hrn : Room n X.A.in1.in1.in1 := hr.in1.in1.in1
      show wpAny _ X.A.in1.in1 (rule "list.length-hint.len" >>= fun _ => ((call (Value.builtin "len") [Value.ref a]).attempt >>= _)) _ _ _
      refine wpAny_bind (wpAny_rule (wpAny_bind (wpAny_attempt ?_)))
      refine W.len_K hF2 I2.ok.mod.kin J2 hs hf (wpAny_call (codeAny_mono (F.run X.A.in1.in1.in1 X.stack s2 H2 { pos := [Value.ref a] } [Value.ref a] [V.ref a] _ _ hrn e3 bi one2 hsp) fun r s3 hq => ?_))
      cases r with
      | error er => exact False.elim hq
      | ok fl =>
        cases fl with
        | next => exact False.elim hq
        | brk => exact False.elim hq
        | cont => exact False.elim hq
        | ret w3 =>
          obtain ⟨z, H3, I3, rz, ez, eH⟩ := Inv.after I2 hq
          subst ez
          rw [eH] at I3
          obtain ⟨t, rfl⟩ := rz
          refine ⟨⟨by omega, by have := hsz; have := line63; omega⟩, ?_⟩
          show wpAny _ _ (asInt? (Value.int (zs.length : Int) s3.toks) >>= _) _ _ _
          refine wpAny_bind (wpAny_pure ?_)
          show wpAny _ _ (if Builtin.List.listTooLong (zs.length : Int).toNat = true then _ else pure ((zs.length : Int) != 0)) _ _ _
          rw [if_neg (by unfold Builtin.List.listTooLong; simp; omega)]
          refine wpAny_pure ?_
          have eH2 : dropH H2 it = H1 := by rw [← hH2]; exact dropH_upd en
          have hitH2 : H2 it = some (ItT l it) := by rw [← hH2]; exact upd_same
          have g3 : s3.heap.get? it = some (itT l) := (I3.hok it (ItT l it) hitH2).1
          have d := inv_drop I3 hitH2
          have f := inv_fp I3 hitH2 (Nat.le_trans sz2 old)
          rw [eH2] at d f
          obtain ⟨_, itsS, cS, rS, hS4⟩ := (show ObjOk X.prog X.w H1 s3.heap S (.lst []) from d.hok S _ hS1)
          cases rS
          have hSit : S ≠ it := ne_of_none hS1 en
          have hSl : l ≠ it := by
            obtain ⟨_, _, ⟨o, eo, _⟩, _⟩ := I1.tuple hz1
            exact Nat.ne_of_lt (Nat.lt_of_lt_of_le (Heap.lt_size eo) old)
          have hzd : SqT X.K H1 l zs := hz1
          obtain ⟨its3, rv3, pt3, hsz3⟩ := d.tuple hzd
          have hl3 := rv3.length
          have hhd : X.A.in1.in1.handled = none := hr.hd
          have hSl2 : S ≠ l := fun z => by
            obtain ⟨o, eo, co, _⟩ := pt3
            rw [← z, hS4] at eo
            cases eo
            exact absurd (show Value.type "list" = Value.type "tuple" from co) (by decide)
          have fin : ∀ (h4 : Heap) (t4 c : Nat), h4.get? S = some { cls := .type "list", dict := none, data := .seq #[] c, slots := #[] } → (∀ b o, b ≠ S → s3.heap.get? b = some o → h4.get? b = some o) →
              codeAny (model X.prog X.w) X.A.in1 (.builtin "list.extend.loop" ⟨[.ref S, .ref it, .none], []⟩) (wants (fun r s₂ => r = Value.none ∧ EP X pins σ Q (Value.ref S) s₂) X.xe) { s3 with heap := h4, toks := t4 } := by
            intro h4 t4 c h1 h3
            have st0 : h4.IsTupleIter it l 0 ∧ h4.IsTuple l its3.toArray := ⟨⟨_, h3 it _ (Ne.symm hSit) g3, rfl, rfl⟩, by
              obtain ⟨o, eo, r⟩ := pt3
              exact ⟨o, h3 l o (Ne.symm hSl2) eo, r⟩⟩
            have W := (Walks.tuple (prog := X.prog) (w := X.w) (A := X.A.in1.in1) hhd it l hSl its3.toArray).toS
            refine codeAny_extend_loopS W (by rw [List.size_toArray, ← hl3]; exact hsz3) S (by simp [hSit, hSl2]) .none _ 0 _ #[] c rfl (Nat.zero_le _) st0 h1 (ItemsOf.nil _) fun s' acc' c' hm hS' hacc => ⟨rfl, .ref S, upd H S (.lst zs), ?_, rfl, q S hnS⟩
            rw [Moved.eq_with hm]
            have kp : ∀ b o, b ≠ S → b ≠ it → s3.heap.get? b = some o → s'.heap.get? b = some o := fun b o n1 n2 e => hm.heap b o (by simp [n1, n2]) (h3 b o n1 e)
            have eacc : acc'.toList = its3 := by
              have a1 : acc'.size = its3.length := by simpa using hacc.1
              have a2 := hacc.2
              refine List.ext_getElem? fun i => ?_
              rw [Array.getElem?_toList]
              by_cases hi : i < acc'.size
              · have hv := a2 i acc'[i] (by simp [hi])
                rw [show acc'[i]? = some acc'[i] by simp [hi]]
                simpa using hv.symm
              · rw [Array.getElem?_eq_none (by omega), List.getElem?_eq_none (by omega)]
            have newS : ∀ (Hx : Hp) (h : Heap), h.get? S = s'.heap.get? S → ObjOk X.prog X.w Hx h S (.lst zs) := fun Hx h e => ⟨hsz3, its3, c', rv3, by rw [e, hS', ← eacc]⟩
            have d5 := d.write (x := S) (e := S) (o := .lst zs) (h' := s3.heap.update S fun _ => { cls := .type "list", dict := none, data := .seq acc' c', slots := #[] }) (t' := s3.toks) (by rw [hS1]; trivial) (.inl rfl) (fun b u n e => (Heap.get?_update_other _ _ (Ne.symm n)).trans e)
              ⟨_, Heap.get?_update_self _ hS4 rfl⟩ (newS _ _ (by rw [hS', Heap.get?_update_self _ hS4 rfl]))
            rw [show upd H1 S (.lst zs) = upd H S (.lst zs) by rw [← hH1, upd_upd]] at d5
            obtain ⟨f0, f1, f2, f3, f4, f5⟩ := f
            show L2.Inv X pins σ (upd H S (.lst zs)) { s3 with heap := s'.heap, toks := s'.toks }
            refine Inv.turned (s := { s3 with heap := s3.heap.update S fun _ => { cls := .type "list", dict := none, data := .seq acc' c', slots := #[] } }) d5 (t' := s'.toks) (it := it) (fun b o n e => ?_) (by rw [upd_ne (Ne.symm hSit)]; rw [← hH1, upd_ne (Ne.symm hSit)] at f0; exact f0) f1 f3 f4 f5
            by_cases hbS : b = S
            · subst hbS
              have e2 := (Heap.get?_update_self (fun _ => ({ cls := .type "list", dict := none, data := .seq acc' c', slots := #[] } : Obj)) hS4 rfl).symm.trans e
              rw [hS']
              exact e2
            · exact kp b o hbS n ((Heap.get?_update_other _ _ (Ne.symm hbS)).symm.trans e)
          have again_ : ∀ (h4 : Heap) (t4 c : Nat), h4.get? S = some { cls := .type "list", dict := none, data := .seq #[] c, slots := #[] } → (∀ b o, b ≠ S → s3.heap.get? b = some o → h4.get? b = some o) →
              wpAny (model X.prog X.w) X.A.in1.in1 (again (.builtin "list.extend.loop" ⟨[.ref S, .ref it, .none], []⟩)) (fun fin s' => match fin with
                | .done f => wants (fun r s₂ => r = Value.none ∧ EP X pins σ Q (Value.ref S) s₂) X.xe (.ok f) s'
                | .again c' => c'.quiet = true ∧ codeAny (model X.prog X.w) X.A.in1 c' (wants (fun r s₂ => r = Value.none ∧ EP X pins σ Q (Value.ref S) s₂) X.xe) s')
                (fun e s' => wants (fun r s₂ => r = Value.none ∧ EP X pins σ Q (Value.ref S) s₂) X.xe (.error e) s') { s3 with heap := h4, toks := t4 } := fun h4 t4 c h1 h3 => wpAny_pure ⟨plainId_quiet PySem.F.plain_extend_loop _, fin h4 t4 c h1 h3⟩
          by_cases hze : zs = []
          · subst hze
            exact again_ s3.heap _ cS hS4 fun b o _ e => e
          · have hne : ((zs.length : Int) != 0) = true := by
              cases zs with
              | nil => exact absurd rfl hze
              | cons => simp; omega
            rw [hne]
            show wpAny _ X.A.in1.in1 (rule "list.extend.makes-room" >>= fun _ => Builtin.List.listTouch (.ref S) >>= fun _ => again (.builtin "list.extend.loop" ⟨[.ref S, .ref it, .none], []⟩)) _ _ _
            refine wpAny_bind (wpAny_rule (wpAny_bind ?_))
            show wpAny _ X.A.in1.in1 (updateSeq S (·.push .none) >>= fun _ => updateSeq S (·.pop)) _ _ _
            refine wpAny_bind (wpAny_updateSeq hS4 rfl ?_)
            have hS5 := Heap.get?_update_self (Obj.mapSeq (·.push Value.none)) hS4 rfl
            refine wpAny_updateSeq (hz := by seq_fits) hS5 rfl ?_
            have hS6 := Heap.get?_update_self (Obj.mapSeq (·.pop)) hS5 rfl
            exact again_ _ _ _ hS6 fun b o n e => (Heap.get?_update_other _ _ (Ne.symm n)).trans ((Heap.get?_update_other _ _ (Ne.symm n)).trans e)
end Ow

set_option Elab.async false
set_option linter.all false
set_option maxRecDepth 100000
set_option maxHeartbeats 2000000
namespace Ow
open PySem PySem.Spec PyProof.Rows L2 ItX Sx
/-! ### own classes: what the readings ask -/
/-- facts of an own class that stands beside built-in things -/
structure ClsX (K : W.Frag) (C : Addr) : Prop where
  t : ClsT K C
  kO : W.kitOne K (.ref C) (.ref C) = some true
  kI : W.kitOne K (.type "int") (.ref C) = some false
  kL : W.kitOne K (.type "list") (.ref C) = some false
  kT : W.kitOne K (.type "tuple") (.ref C) = some false
  ne : W.findIn K (.ref C) "__ne__" = some (some (.builtin "object.__ne__"))
  nI : W.notFirst K C (.type "int") = true
  nL : W.notFirst K C (.type "list") = true
  nT : W.notFirst K C (.type "tuple") = true
section
variable {K : W.Frag} {H H1 : Hp} {Q : VK} {p a l C dx : Addr} {fs : List (Str × V)} {xs : List V} {σ : L2.St} {te : TE}
theorem x_isiC (hp : H p = some (.ins C dx fs)) (c : ClsX K C) (k : Q (.bl true) H) : rIsi K [.ref p, .ref C] H Q := ⟨_, _, _, _, true, rfl, .own C, .base (.ins hp c.t.cl c.t.ha c.t.hn c.t.htk c.t.hm), c.kO, k⟩
theorem x_isiCL (hp : H p = some (.lst xs)) (c : ClsX K C) (k : Q (.bl false) H) : rIsi K [.ref p, .ref C] H Q := ⟨_, _, _, _, false, rfl, .own C, .base (.lst hp), c.kL, k⟩
theorem x_isiCT (hp : H p = some (.tup xs)) (c : ClsX K C) (k : Q (.bl false) H) : rIsi K [.ref p, .ref C] H Q := ⟨_, _, _, _, false, rfl, .own C, .base (.tup hp), c.kT, k⟩
theorem x_isiCI {i : Int} (c : ClsX K C) (k : Q (.bl false) H) : rIsi K [.int i, .ref C] H Q := ⟨_, _, _, _, false, rfl, .own C, .base (.int i), c.kI, k⟩
/-! the other side of == -/
theorem oth_of {X : Cx} {y : V} {tb : Value} (ty : TyX X.K H y tb) (n : W.notFirst X.K C tb = true) : Oth X C y H := fun pins σ s v I ry => by
  obtain ⟨P, Z, p, _⟩ := kit_of I ry ty
  exact ⟨tb, Z.ty _ _ I.kIn p, n⟩
theorem oth_ins {X : Cx} (hp : H p = some (.ins C dx fs)) (c : ClsT X.K C) : Oth X C (.ref p) H := oth_of (.base (.ins hp c.cl c.ha c.hn c.htk c.hm)) (by unfold W.notFirst; rw [show (Value.ref C == Value.ref C) = true from beq_self_eq_true _]; rfl)
theorem oth_lst {X : Cx} (hp : H p = some (.lst xs)) (c : ClsX X.K C) : Oth X C (.ref p) H := oth_of (.base (.lst hp)) c.nL
theorem oth_tup {X : Cx} (hp : H p = some (.tup xs)) (c : ClsX X.K C) : Oth X C (.ref p) H := oth_of (.base (.tup hp)) c.nT
theorem oth_int {X : Cx} {i : Int} (c : ClsX X.K C) : Oth X C (.int i) H := oth_of (.base (.int i)) c.nI
/-! readings -/
theorem x_eqC {X : Cx} {sp : Sp} {E : XK} {y : V} (hp : H p = some (.ins C dx fs)) (o : Oth X C y H) (k : sp [.ref p, y] H (fun v H' => (∃ b, v = .bl b) ∧ Q v H') E) : rEqC X C sp E (.ref p) y H Q := ⟨p, dx, fs, rfl, hp, o, k⟩
theorem x_neC {X : Cx} {sp : Sp} {E : XK} {y : V} (hp : H p = some (.ins C dx fs)) (o : Oth X C y H) (k : sp [.ref p, y] H (fun v H' => ∃ b, v = .bl b ∧ Q (.bl (!b)) H') E) : rNeC X C sp E (.ref p) y H Q := ⟨p, dx, fs, rfl, hp, o, k⟩
theorem x_lenC {X : Cx} {sp : Sp} {E : XK} (hp : H p = some (.ins C dx fs)) (k : sp [.ref p] H (fun v H' => ∃ n : Int, v = .int n ∧ 0 ≤ n ∧ n < 2 ^ 63 ∧ Q (.int n) H') E) : rLenC X C sp E [.ref p] H Q := ⟨p, dx, fs, rfl, hp, k⟩
theorem x_listC {X : Cx} {spL : Sp} {fld : Str} (hp : H p = some (.ins C dx fs)) (hf : fs.lookup fld = some (.ref l)) (hz : SqT X.K H l xs) (hl : ∀ H1, H1 p = some (.ins C dx fs) → SqT X.K H1 l xs → spL [.ref p] H1 (fun v H' => v = .int xs.length ∧ H' = H1) fun _ _ _ => False)
    (k : ∀ q H1, Ex H H1 → H q = none → H1 q = some (.lst xs) → Q (.ref q) H1) : rListC X C fld spL [.ref p] H Q := ⟨p, dx, fs, l, xs, rfl, hp, hf, hz, hl, fun q hq => k q _ (Ex.new hq) hq upd_same⟩
theorem x_iOwnT {fld : Str} {R : It → Hp → Prop} (k : te σ H fun x H1 => ∃ (a dx : Addr) (fs : List (Str × V)) (l : Addr) (zs : List V), x = .ref a ∧ H1 a = some (.ins C dx fs) ∧ fs.lookup fld = some (.ref l) ∧ SqT K H1 l zs ∧ R (Itt K l) H1) : iOwnT K C fld te σ H R := k
theorem x_clear (h : H l = some (.lst xs)) (k : Q .non (upd H l (.lst []))) : rClear (.ref l) [] H Q := ⟨l, xs, rfl, rfl, h, k⟩
/-- o.m(..), behind the reading of o -/
def MethK (C : Addr) (m : Str) (sp : Sp) (E : XK) (t : TA) (σ : L2.St) (x : V) (H : Hp) (Q : VK) : Prop := ∃ a dx fs, x = .ref a ∧ H a = some (.ins C dx fs) ∧ fs.lookup m = none ∧ t σ H fun vs H2 => sp (x :: vs) H2 Q E
theorem x_meth {m : Str} {sp : Sp} {E : XK} {t : TA} (k : te σ H fun x H1 => MethK C m sp E t σ x H1 Q) : tMeth C m sp [] E te t σ H Q := by
  show te σ H fun x H1 => ∃ a dx fs, x = .ref a ∧ H1 a = some (.ins C dx fs) ∧ fs.lookup m = none ∧ t σ H1 fun vs H2 => sp (x :: (vs ++ [])) H2 Q E
  have e : (fun (x : V) (H1 : Hp) => ∃ a dx fs, x = .ref a ∧ H1 a = some (.ins C dx fs) ∧ fs.lookup m = none ∧ t σ H1 fun vs H2 => sp (x :: (vs ++ [])) H2 Q E) = fun x H1 => MethK C m sp E t σ x H1 Q := by
    funext x H1
    unfold MethK
    simp only [List.append_nil]
  rw [e]
  exact k
def PropK (C : Addr) (sp : Sp) (E : XK) (x : V) (H : Hp) (Q : VK) : Prop := ∃ a dx fs, x = .ref a ∧ H a = some (.ins C dx fs) ∧ sp [.ref a] H Q E
theorem x_prop {sp : Sp} {E : XK} (k : te σ H fun x H1 => PropK C sp E x H1 Q) : tProp C sp [] E te σ H Q := k
/-- o for the iterator of its field, behind the reading of o -/
def IOwnK (K : W.Frag) (C : Addr) (fld : Str) (x : V) (H1 : Hp) (R : It → Hp → Prop) : Prop := ∃ (a dx : Addr) (fs : List (Str × V)) (l : Addr) (zs : List V), x = .ref a ∧ H1 a = some (.ins C dx fs) ∧ fs.lookup fld = some (.ref l) ∧ SqT K H1 l zs ∧ R (Itt K l) H1
theorem x_iOwn {fld : Str} {R : It → Hp → Prop} (k : te σ H fun x H1 => IOwnK K C fld x H1 R) : iOwnT K C fld te σ H R := k
theorem x_bm0 {T : String} {r : V → List V → Hp → VK → Prop} (k : te σ H fun x H1 => tyV K T x H1 ∧ r x [] H1 Q) : tBM0 K T r te σ H Q := k
theorem NB.ext {φ : Heap → Prop} : NB (.ext φ) := fun _ _ _ _ h => nomatch h
end
/-! a comprehension over a tuple, a loop over one (the iterator of one) -/
section
variable {H H1 : Hp} {K : W.Frag} {σ : L2.St} {Q : VK} {D : Ends} {t : TT} {te : TE} {a : Addr}
theorem lc_itt {xs : List V} {j : Nat} {vs : List Nat} (hx : H1 a = some (.tup xs)) (I : Nat → List V → Hp → Prop) (h0 : I 0 [] H1) (mono : ∀ i acc H H', Tx H H' → I i acc H → I i acc H') (nb : ∀ i acc H, I i acc H → NB (.lst acc) ∧ acc.length < sizeLine)
    (hw : ∀ x, wipe ((wipe σ vs).set j (some x)) vs = wipe σ vs)
    (turn : ∀ (i : Nat) x acc H', xs[i]? = some x → Ex H1 H' → I i acc H' → ∀ kk : Option V → Hp → Prop, (∀ y H4, Ex H' H4 → I (i + 1) (acc ++ [y]) H4 → kk (some y) H4) → (∀ H4, Ex H' H4 → I (i + 1) acc H4 → kk none H4) →
      t ((wipe σ vs).set j (some x)) H' fun b H3 => if b = true then te ((wipe σ vs).set j (some x)) H3 (fun y H4 => kk (some y) H4) else kk none H3)
    (k : ∀ p ys H2, Ex H1 H2 → H1 p = none → H2 p = some (.lst ys) → I xs.length ys H2 → Q (.ref p) H2) : LcGo (Itt K a) (gName j) t te vs σ H1 Q := by
  have hq : ∀ H', Ex H1 H' → SqT K H' a xs := fun H' e => SqT.of (e.kp _ _ hx NB.tup)
  refine lc_any (n := xs.length) I h0 mono nb (fun i H' hi e => ⟨xs, xs[i], hq H' e, by simp [hi]⟩) (fun H' e => ⟨xs, hq H' e, Nat.le_refl _⟩) (fun i acc x H' H'' hi e q y kk k1 k2 => ?_) k
  obtain ⟨rfl, y⟩ := y
  exact ⟨hw _, turn i x acc _ (y xs (hq _ e)) e q kk k1 k2⟩
/-- the iterable, a tuple that stands -/
def TK (K : W.Frag) (x : V) (H1 : Hp) (R : It → Hp → Prop) : Prop := ∃ a, x = .ref a ∧ (∃ xs, SqT K H1 a xs) ∧ R (Itt K a) H1
end
/-! within a comprehension: the rules whose readings name K -/
section
variable {X : Cx} {sB : Shared} {HB : Hp} {scope : Scope} {cenv : Env} {fp : List Addr}
theorem ix_tupB : IxR (X.blk sB HB scope cenv fp) (rIxT X.K) := ix_tup (X := X.blk sB HB scope cenv fp)
theorem ix_listB : IxR (X.blk sB HB scope cenv fp) (rIxL X.K) := ix_list (X := X.blk sB HB scope cenv fp)
theorem op_in_seqB : OpR (X.blk sB HB scope cenv fp) (compareOp .In) (rIn X.K false) := op_in_seq (X := X.blk sB HB scope cenv fp)
theorem op_notIn_seqB : OpR (X.blk sB HB scope cenv fp) (compareOp .NotIn) (rIn X.K true) := op_notIn_seq (X := X.blk sB HB scope cenv fp)
theorem sl_tupB : SlR (X.blk sB HB scope cenv fp) (rSlT X.K) := sl_tup (X := X.blk sB HB scope cenv fp)
theorem sl_tupAB : SlR (X.blk sB HB scope cenv fp) (rSlA X.K) := sl_tupA (X := X.blk sB HB scope cenv fp)
theorem sl_listB : SlR (X.blk sB HB scope cenv fp) (rSlL X.K) := sl_list (X := X.blk sB HB scope cenv fp)
theorem op_catTB : OpR (X.blk sB HB scope cenv fp) (binaryOp .Add) (rCatT X.K) := op_catT (X := X.blk sB HB scope cenv fp)
theorem op_catAB : OpR (X.blk sB HB scope cenv fp) (binaryOp .Add) (rCatA X.K) := op_catA (X := X.blk sB HB scope cenv fp)
theorem call_isiB : CallR (X.blk sB HB scope cenv fp) (.builtin "isinstance") (rIsi X.K) := call_isi (X := X.blk sB HB scope cenv fp)
theorem call_isiTB : CallR (X.blk sB HB scope cenv fp) (.builtin "isinstance") (rIsiT X.K) := call_isiT (X := X.blk sB HB scope cenv fp)
theorem c_lenB : CallR (X.blk sB HB scope cenv fp) (.builtin "len") (Sx.rLen X.K) := Sx.c_len (X := X.blk sB HB scope cenv fp)
theorem op_eqDB (hu : X.A.units + 64 < cLine) : OpR (X.blk sB HB scope cenv fp) (compareOp .Eq) (rEqD X.K) := op_eqD (X := X.blk sB HB scope cenv fp) hu
theorem op_neDB (hu : X.A.units + 64 < cLine) : OpR (X.blk sB HB scope cenv fp) (compareOp .NotEq) (rNeD X.K) := op_neD (X := X.blk sB HB scope cenv fp) hu
end
end Ow

set_option Elab.async false
set_option linter.all false
set_option maxRecDepth 100000
set_option maxHeartbeats 2000000
namespace Ow
open PySem PySem.Spec PyProof.Rows L2 ItX Sx
/-! slices of lists by whole numbers -/
theorem cut_take {xs : List V} {i : Nat} : cutV xs none (some (i : Int)) = xs.take i := by
  unfold cutV
  rw [HT.sIx_nat, HT.sIx_none, List.drop_zero, Nat.sub_zero]
  by_cases h : i ≤ xs.length
  · rw [Nat.min_eq_left h]
  · rw [Nat.min_eq_right (by omega), List.take_of_length_le (Nat.le_refl _), List.take_of_length_le (by omega)]
theorem cut_drop {xs : List V} {i : Nat} : cutV xs (some (i : Int)) none = xs.drop i := by
  unfold cutV
  rw [HT.sIx_nat, HT.sIx_none]
  by_cases h : i ≤ xs.length
  · rw [Nat.min_eq_left h, List.take_of_length_le (by rw [List.length_drop]; exact Nat.le_refl _)]
  · rw [Nat.min_eq_right (by omega), List.drop_eq_nil_of_le (by omega), List.drop_eq_nil_of_le (by omega), List.take_nil]
theorem cut_drop1 {xs : List V} {i : Nat} : cutV xs (some ((i : Int) + 1)) none = xs.drop (i + 1) := by
  rw [show (i : Int) + 1 = ((i + 1 : Nat) : Int) by omega]
  exact cut_drop
theorem cut_drop_one {xs : List V} : cutV xs (some 1) none = xs.drop 1 := cut_drop (i := 1)
theorem cut_take_one {xs : List V} : cutV xs none (some 1) = xs.take 1 := cut_take (i := 1)
/-! lists of addresses alone -/
def Refs (xs : List V) : Prop := ∀ v ∈ xs, ∃ a, v = V.ref a
theorem Refs.nil : Refs [] := fun _ h => nomatch h
theorem Refs.cons {a : Addr} {xs : List V} (h : Refs xs) : Refs (.ref a :: xs) := fun v hv => (List.mem_cons.mp hv).elim (fun e => ⟨a, e⟩) (h v)
theorem Refs.app {xs ys : List V} (h : Refs xs) (h2 : Refs ys) : Refs (xs ++ ys) := fun v hv => (List.mem_append.mp hv).elim (h v) (h2 v)
theorem Refs.cut {xs : List V} {lo hi : Option Int} (h : Refs xs) : Refs (cutV xs lo hi) := fun v hv => h v (by unfold cutV at hv; exact List.mem_of_mem_drop (List.mem_of_mem_take hv))
theorem Refs.rev {xs : List V} (h : Refs xs) : Refs xs.reverse := fun v hv => h v (List.mem_reverse.mp hv)
theorem Refs.drop {xs : List V} {n : Nat} (h : Refs xs) : Refs (xs.drop n) := fun v hv => h v (List.mem_of_mem_drop hv)
theorem Refs.take {xs : List V} {n : Nat} (h : Refs xs) : Refs (xs.take n) := fun v hv => h v (List.mem_of_mem_take hv)
theorem Refs.nb {xs : List V} (h : Refs xs) : NB (.lst xs) := NB.refs h
section
variable {K : W.Frag} {H : Hp} {Q : VK} {a b : Addr} {xs ys : List V}
theorem x_catR (h : H a = some (.tup xs)) (h' : H b = some (.tup ys)) (n1 : xs ≠ []) (l : xs.length + ys.length ≤ sizeLine) (k : ∀ p H1, Ex H H1 → H1 p = some (.tup (xs ++ ys)) → Q (.ref p) H1) : rCatT K (.ref a) (.ref b) H Q :=
  ⟨a, b, xs, ys, rfl, rfl, SqT.of h, SqT.of h', n1, l, fun e => k a H (Ex.refl _) (by rw [e, List.append_nil]; exact h), fun _ p hp => k p _ (Ex.new hp) upd_same⟩
theorem x_slTr {lo hi : Option Int} (h : H a = some (.tup xs)) (hw : ¬ (HT.sIx xs.length 0 lo = 0 ∧ HT.sIx xs.length xs.length hi = xs.length)) (k : ∀ p H1, Ex H H1 → H1 p = some (.tup (cutV xs lo hi)) → Q (.ref p) H1) : rSlT K (.ref a) lo hi H Q :=
  x_slT h hw fun p hp => k p _ (Ex.new hp) upd_same
end
/-- two ways to one value: what follows is done once -/
theorem x_iteM {c : Bool} {ta tb : TE} {σ : L2.St} {H1 : Hp} {Q : VK} (R : V → Hp → Prop) (kR : ∀ (Q' : VK), (∀ v H2, R v H2 → Q' v H2) → ta σ H1 Q' ∧ tb σ H1 Q') (k : ∀ v H2, R v H2 → Q v H2) : if c = true then ta σ H1 Q else tb σ H1 Q := by
  obtain ⟨h1, h2⟩ := kR Q k
  cases c with
  | true => exact h1
  | false => exact h2
end Ow

set_option Elab.async false
set_option linter.all false
set_option maxRecDepth 100000
set_option maxHeartbeats 2000000
namespace Ow
open PySem PySem.Spec PyProof.Rows L2 ItX Sx
/-! ### tuple * int, all cases -/
theorem tuple_mul_same (l : Addr) (items : Array Value) (n : Nat) (dd : Option Addr) (sl : Array (Option Value)) (x : Int) (u : Tok) (c0 : (decide (x < -(2 ^ 63)) || decide (x ≥ 2 ^ 63)) = false) (c1 : (items.isEmpty || x == 1) = true) :
    Meets (Builtin.«tuple.__mul__» ⟨[.ref l, .int x u], []⟩) (fun _ R s => s.heap.get? l = some { cls := .type "tuple", dict := dd, data := .seq items n, slots := sl } ∧ R (.ok (.ret (Value.ref l))) s) :=
  .of_wp fun prog w A R s h => by
    obtain ⟨hp, g, d, tk, os⟩ := s
    obtain ⟨hl, h⟩ := h
    have f1 := AutoSeq1.idx_int
    wp_walk using wpAny_loadPart' hl
    repeat (first
      | (refine wpAny_ite_false (decide_eq_false (by rw [c0]; exact Bool.false_ne_true)) ?_; wp_walk using wpAny_loadPart' hl)
      | (refine wpAny_ite_true (decide_eq_true (by rw [c1])) ?_; wp_walk using wpAny_loadPart' hl))
    all_goals exact ⟨_, rfl, h⟩
theorem tuple_mul_nil (l : Addr) (items : Array Value) (n : Nat) (dd : Option Addr) (sl : Array (Option Value)) (x : Int) (u : Tok) (c0 : (decide (x < -(2 ^ 63)) || decide (x ≥ 2 ^ 63)) = false) (c1 : (items.isEmpty || x == 1) = false) (c2 : (decide (x ≤ 0) || items.isEmpty) = true) :
    Meets (Builtin.«tuple.__mul__» ⟨[.ref l, .int x u], []⟩) (fun _ R s => s.heap.get? l = some { cls := .type "tuple", dict := dd, data := .seq items n, slots := sl } ∧
      R (.ok (.ret (Value.ref s.heap.objs.size))) { s with heap := s.heap.push { cls := Value.type "tuple", data := Data.seq #[] }, toks := s.toks }) :=
  .of_wp fun prog w A R s h => by
    obtain ⟨hp, g, d, tk, os⟩ := s
    obtain ⟨hl, h⟩ := h
    have f1 := AutoSeq1.idx_int
    wp_walk using wpAny_loadPart' hl
    repeat (first
      | (refine wpAny_ite_false (decide_eq_false (by rw [c0]; exact Bool.false_ne_true)) ?_; wp_walk using wpAny_loadPart' hl)
      | (refine wpAny_ite_false (decide_eq_false (by rw [c1]; exact Bool.false_ne_true)) ?_; wp_walk using wpAny_loadPart' hl)
      | (refine wpAny_ite_true (decide_eq_true (by rw [c2])) ?_; wp_walk using wpAny_loadPart' hl))
    all_goals exact ⟨_, rfl, h⟩
def rRepA (K : W.Frag) : R2 := fun x y H Q => ∃ l k xs, x = .ref l ∧ y = .int k ∧ SqT K H l xs ∧ -1000 ≤ k ∧ k ≤ 1000 ∧ xs.length ≤ 1000 ∧ ((xs = [] ∨ k = 1) → Q (.ref l) H) ∧ ((xs ≠ [] ∧ k ≠ 1) → ∀ p, H p = none → Q (.ref p) (upd H p (.tup (List.replicate k.toNat xs).flatten)))
theorem op_repA {X : Cx} : OpR X (binaryOp .Mult) (rRepA X.K) := by
  intro pins s σ H x y v u Q I rx ry h
  obtain ⟨l, k, xs, rfl, rfl, hT, h1, h2, hz, q1, q2⟩ := h
  by_cases big : xs ≠ [] ∧ 2 ≤ k
  · exact op_repT pins s σ H _ _ v u Q I rx ry ⟨l, k, xs, rfl, rfl, hT, big.1, big.2, h2, hz, q2 ⟨big.1, by omega⟩⟩
  cases rx
  obtain ⟨t, rfl⟩ := ry
  obtain ⟨its, r, ⟨⟨cls, dd, data, sl⟩, ho, hc, n, hd⟩, hs⟩ := I.tuple hT
  simp only at hc hd
  subst hc hd
  have hle : its.length = xs.length := r.length.symm
  have c0 : (decide (k < -(2 ^ 63)) || decide (k ≥ 2 ^ 63)) = false := by
    rw [decide_eq_false (by omega), decide_eq_false (by omega)] <;> rfl
  have em : its.toArray.isEmpty = decide (xs = []) := by
    cases xs with
    | nil =>
      have e : its = [] := List.eq_nil_of_length_eq_zero (by simpa using hle)
      rw [e]; rfl
    | cons a b =>
      cases its with
      | nil => simp at hle
      | cons c d => rfl
  by_cases same : xs = [] ∨ k = 1
  · have c1 : (its.toArray.isEmpty || k == 1) = true := by
      rw [em]
      rcases same with e | e
      · rw [decide_eq_true e]; rfl
      · rw [e]; simp
    exact wpAny_binaryOp_repeat_ref (T := "tuple") (U := "int") (by decide) ⟨_, ho, rfl⟩ (fun s' => typeIs_int s' k t) noFill_tuple_mul PySem.F.fills_int_mul PySem.F.slot_int_rmul repeat_tuple PySem.F.slot_int_index.lookup
      (call_meets PySem.F.slot_int_rmul (typeIs_int s k t) PySem.F.entry_int_rmul (PySem.F.args_int_rmul_2 _ _) (int_rmul_tuple k t l its.toArray n dd sl)
        ⟨ho, rfl, ⟨_, ho, rfl⟩, call_meets PySem.F.slot_tuple_mul ⟨_, ho, rfl⟩ PySem.F.entry_tuple_mul (PySem.F.args_tuple_mul_2 _ _) (tuple_mul_same l its.toArray n dd sl k t c0 c1) ⟨ho, .ref l, H, I, rfl, q1 same⟩⟩)
  · have ne : xs ≠ [] := fun e => same (.inl e)
    have k1 : k ≠ 1 := fun e => same (.inr e)
    have k0 : k ≤ 0 := by
      rcases Int.lt_or_le 0 k with h | h
      · exact absurd ⟨ne, by omega⟩ big
      · exact h
    have c1 : (its.toArray.isEmpty || k == 1) = false := by
      rw [em, decide_eq_false ne, Bool.false_or]
      exact beq_eq_false_iff_ne.mpr k1
    have c2 : (decide (k ≤ 0) || its.toArray.isEmpty) = true := by rw [decide_eq_true k0]; rfl
    have q := q2 ⟨ne, k1⟩
    rw [show k.toNat = 0 by omega] at q
    refine wpAny_binaryOp_repeat_ref (T := "tuple") (U := "int") (by decide) ⟨_, ho, rfl⟩ (fun s' => typeIs_int s' k t) noFill_tuple_mul PySem.F.fills_int_mul PySem.F.slot_int_rmul repeat_tuple PySem.F.slot_int_index.lookup
      (call_meets PySem.F.slot_int_rmul (typeIs_int s k t) PySem.F.entry_int_rmul (PySem.F.args_int_rmul_2 _ _) (int_rmul_tuple k t l its.toArray n dd sl)
        ⟨ho, rfl, ⟨_, ho, rfl⟩, call_meets PySem.F.slot_tuple_mul ⟨_, ho, rfl⟩ PySem.F.entry_tuple_mul (PySem.F.args_tuple_mul_2 _ _) (tuple_mul_nil l its.toArray n dd sl k t c0 c1 c2) ⟨ho, ?_⟩⟩)
    refine ⟨.ref s.heap.objs.size, _, I.laid (t' := s.toks) (o := .tup []) (fun b ob q => Heap.get?_push_of_some _ q) (Nat.le_refl _) ?_, rfl, q _ (I.hok.fresh (Nat.le_refl _))⟩
    exact ⟨Nat.zero_le _, [], .nil, IsTup.new _ _⟩
/-! ### o * o of one own class, ~o -/
def rBinC (C : Addr) (sp : Sp) (E : XK) : R2 := fun x y H Q => ∃ (a dx : Addr) (fs : List (Str × V)) (b dy : Addr) (gs : List (Str × V)), x = .ref a ∧ y = .ref b ∧ H a = some (.ins C dx fs) ∧ H b = some (.ins C dy gs) ∧ sp [x, y] H (fun v H' => (∃ r, v = .ref r) ∧ Q v H') E
theorem op_mulOwn {X : Cx} {n : Nat} {CX : CXT} {C f : Addr} {fd : FuncData} {ps : List Str} {sp : Sp} {E : XK} (F : FnOk X.prog X.w X.K X.mg X.base CX n f fd ps sp)
    (hc : W.selfFirst X.K C = true) (hs : W.findIn X.K (Value.ref C) (Str.ofString "__mul__") = some (some (Value.ref f))) (hf : W.isFn X.K (Value.ref f) = true) (hb : Binds X.K fd ps []) (hx : Passes CX X E) (hr : Room n X.A) : OpR X (binaryOp .Mult) (rBinC C sp E) := by
  rintro pins s σ H x y v u Q I rx ry ⟨a, dx, fs, b, dy, gs, rfl, rfl, ha, hbb, hsp⟩
  cases rx
  cases ry
  obtain ⟨mA, J, _⟩ := ins_get I.hok ha
  obtain ⟨od, J, _⟩ := ObjM.look J
  obtain ⟨mB, JB, _⟩ := ins_get I.hok hbb
  obtain ⟨odB, JB, _⟩ := ObjM.look JB
  obtain ⟨m, hF⟩ := Inv.fr I
  refine W.binop_K hF I.ok.mod.kin J JB.type hc hs hf ?_
  have hl := F.len _ _ _ _ hsp
  have r2 : Vals [V.ref a, V.ref b] [Value.ref a, Value.ref b] := Paired.cons rfl (Paired.cons rfl Paired.nil)
  have bi := hb s [Value.ref a, Value.ref b] I.kIn (by simpa using hl)
  rw [List.append_nil] at bi
  refine wpAny_call (codeAny_mono (F.run X.A X.stack s H { pos := [Value.ref a, Value.ref b] } [Value.ref a, Value.ref b] [V.ref a, V.ref b] _ E hr I.env0 bi r2 hsp) fun r s' hq => ?_)
  cases r with
  | error e => exact hx pins σ H s e s' I hq
  | ok fl =>
    cases fl with
    | ret w =>
      obtain ⟨z, H', I', rz, ⟨r, ez⟩, q⟩ := Inv.after I hq
      subst ez
      cases rz
      exact ⟨.ref r, H', I', rfl, q⟩
    | _ => exact hq.elim
def rInvC (C : Addr) (sp : Sp) (E : XK) : V → Hp → VK → Prop := fun x H Q => ∃ (a dx : Addr) (fs : List (Str × V)), x = .ref a ∧ H a = some (.ins C dx fs) ∧ sp [x] H Q E
theorem un_invOwn {X : Cx} {n : Nat} {CX : CXT} {C f : Addr} {fd : FuncData} {ps : List Str} {sp : Sp} {E : XK} (F : FnOk X.prog X.w X.K X.mg X.base CX n f fd ps sp)
    (hs : W.findIn X.K (Value.ref C) (Str.ofString "__invert__") = some (some (Value.ref f))) (hf : W.isFn X.K (Value.ref f) = true) (hb : Binds X.K fd ps []) (hx : Passes CX X E) (hr : Room n X.A) : UnR X (unaryOp .Invert) (rInvC C sp E) := by
  rintro pins s σ H x v Q I rx ⟨a, dx, fs, rfl, ha, hsp⟩
  cases rx
  obtain ⟨mA, J, _⟩ := ins_get I.hok ha
  obtain ⟨od, J, _⟩ := ObjM.look J
  obtain ⟨m, hF⟩ := Inv.fr I
  unfold unaryOp
  refine wpAny_holding ?_
  have hl := F.len _ _ _ _ hsp
  have r2 : Vals [V.ref a] [Value.ref a] := Paired.cons rfl Paired.nil
  have bi := hb s [Value.ref a] I.kIn (by simpa using hl)
  rw [List.append_nil] at bi
  refine wpAny_bind (m := callSpecial? (.ref a) (Str.ofString "__invert__")) (W.special_fn I.kIn J hs (beq_iff_eq.mp hf) ?_)
  refine wpAny_call (codeAny_mono (F.run X.A X.stack s H { pos := [Value.ref a] } [Value.ref a] [V.ref a] _ E hr I.env0 bi r2 hsp) fun r s' hq => ?_)
  cases r with
  | error e => exact hx pins σ H s e s' I hq
  | ok fl =>
    cases fl with
    | ret w =>
      obtain ⟨z, H', I', rz, q⟩ := Inv.after I hq
      exact wpAny_pure ⟨z, H', I', rz, q⟩
    | _ => exact hq.elim
end Ow

set_option Elab.async false
set_option linter.all false
set_option maxRecDepth 100000
set_option maxHeartbeats 2000000
namespace Er
open PySem PySem.Spec PyProof.Rows L2 Sx
/-! ### methods and classes whose call may raise -/
def tMethS (C : Addr) (m : Str) (sp : Sp) (E : L2.St → XK) (ta : TE) (t : TA) : TE := fun σ H Q => ta σ H fun x H1 => ∃ a dx fs, x = .ref a ∧ H1 a = some (.ins C dx fs) ∧ fs.lookup m = none ∧ t σ H1 fun vs H2 => sp (x :: vs) H2 Q (E σ)
def tMakeS (C : Addr) (sp : Sp) (E : L2.St → XK) (t : TA) : TE := fun σ H Q => t σ H fun vs H1 => ∀ x dx, H1 x = none → H1 dx = none → dx ≠ x → sp (.ref x :: vs) (upd (upd H1 dx (.own x)) x (.ins C dx [])) (fun v H2 => v = .non ∧ Q (.ref x) H2) (E σ)
section
variable {X : Cx} {CX : CXT} {k : Nat} {f C : Addr} {fd : FuncData} {ps : List Str} {sp : Sp} {E : L2.St → XK} {x m : Str} {p pos apos : Pos} {e o : Expr} {es : List Expr} {ta : TE} {t : TA}
theorem run_makeS {pins : List (Addr × Obj)} {σ : L2.St} {H : Hp} {s : Shared} {Q : VK} {us : List Value} {vs : List V} (M : Mk X.K C f) (F : FnOk X.prog X.w X.K X.mg X.base CX k f fd ps sp) (hr : Room (k + 1) X.A) (hb : Binds X.K fd ps [])
    (hx : PassesAt CX X σ (E σ)) (I : Inv X pins σ H s) (r : Vals vs us)
    (h : ∀ x dx, H x = none → H dx = none → dx ≠ x → sp (.ref x :: vs) (upd (upd H dx (.own x)) x (.ins C dx [])) (fun v H2 => v = .non ∧ Q (.ref x) H2) (E σ)) :
    wpAny (model X.prog X.w) X.A (call (.ref C) us) (EP X pins σ Q) X.xe s := by
  have hq := h (s.heap.objs.size + 1) s.heap.objs.size (I.hok.fresh (Nat.le_succ _)) (I.hok.fresh (Nat.le_refl _)) (Nat.ne_of_lt (Nat.lt_succ_self _))
  have I2 := Inv.made (C := C) I
  have r2 : Vals (V.ref (s.heap.objs.size + 1) :: vs) (Value.ref (s.heap.objs.size + 1) :: us) := .cons rfl r
  have hl : (Value.ref (s.heap.objs.size + 1) :: us ++ []).length = ps.length := by
    have e := r2.length
    rw [F.len _ _ _ _ hq] at e
    rw [List.append_nil]
    exact e.symm
  have b := hb _ (Value.ref (s.heap.objs.size + 1) :: us) I2.kIn hl
  rw [List.append_nil] at b
  refine wpAny_call (make_map (f := f) I.kIn M.makes M.init (beq_iff_eq.mp M.fn) (codeAny_mono (F.run _ X.stack _ _ ⟨Value.ref (s.heap.objs.size + 1) :: us, []⟩ (Value.ref (s.heap.objs.size + 1) :: us) _ _ (E σ) (hr.make C us [])
    (I2.env0.make C us []) b r2 hq) fun r s' hq' => ?_))
  cases r with
  | error e => exact hx pins _ _ e s' I2 hq'
  | ok fl =>
    cases fl with
    | ret u =>
      obtain ⟨v, H', I3, rv, ev, q3⟩ := I2.after hq'
      subst ev
      exact ⟨rv, ⟨V.ref (s.heap.objs.size + 1), H', I3, rfl, q3⟩⟩
    | next => exact False.elim hq'
    | brk => exact False.elim hq'
    | cont => exact False.elim hq'
theorem pe_makeS (M : Mk X.K C f) (F : FnOk X.prog X.w X.K X.mg X.base CX k f fd ps sp) (hr : Room (k + 1) X.A) (hg : Gl X x) (hm : X.mg x = some (.ref C)) (hb : Binds X.K fd ps []) (hx : ∀ σ, PassesAt CX X σ (E σ))
    (ha : PA X (e :: es) t) (hdb : (x == ("__debug__" : Str)) = false := by decide) (he : starEach (e :: es) X.env = (false, eval e X.env) :: starEach es X.env := by rfl) (hpl : (backTo pos (starEach es X.env)).any (·.1) = false := by rfl) :
    PE X (.Call (.Name x p) (e :: es) [] pos) (tMakeS C sp E t) := by
  refine ⟨fun pins s σ H Q I h => ?_⟩
  refine wpAny_Call_Name_kw (ld_glob I hg hm ?_ hdb)
  refine PySem.W.callWith_K (h₀ := X.base) I.ok.mod.kin M.kp (thn (ha.run pos pins s σ H _ I h) fun us s1 ⟨vs, H1, I1, r, q⟩ => ⟨I1.kIn, ?_⟩) he hpl
  exact run_makeS M F hr hb (hx σ) I1 r q
theorem pe_methS {pl : Sem Bool} (he : PE X o ta) (c : Cls X.K C) (hm : Meth X.K C m f) (F : FnOk X.prog X.w X.K X.mg X.base CX k f fd ps sp) (hr : Room k X.A) (hb : Binds X.K fd ps []) (hx : ∀ σ, PassesAt CX X σ (E σ)) (ha : PA X (e :: es) t)
    (hst : starEach (e :: es) X.env = (false, eval e X.env) :: starEach es X.env := by rfl) (hpl : (backTo pos (starEach es X.env)).any (·.1) = false := by rfl)
    (ht : eval (.Call (.Attribute o m apos) (e :: es) [] pos) X.env = (do
      let ov ← eval o X.env
      standAt apos.atName
      let (f, first) ← holding [ov] (getMethod ov m pl)
      callWith pos f first (backTo pos (starEach (e :: es) X.env)) (backToKw pos (keywordEach [] X.env))) := by rfl) :
    PE X (.Call (.Attribute o m apos) (e :: es) [] pos) (tMethS C m sp E ta t) := by
  refine ⟨fun pins s σ H Q I h => ?_⟩
  refine PySem.W.methodCall_KW (pl := pl) (thn (he.run pins s σ H _ I h) fun u s1 ⟨x, H1, I1, rx, a, dx, fs, ex, ea, l, q⟩ => ?_) ht
  subst ex
  obtain rfl : u = Value.ref a := rx
  refine getmeth_ok I1 ea c hm l ?_
  refine PySem.W.callWith_K (first := [.ref a]) (h₀ := X.base) I.ok.mod.kin hm.kp (thn (ha.run pos pins s1 σ H1 _ I1 q) fun us s2 ⟨vs, H2, I2, r, q2⟩ => ⟨I2.kIn, ?_⟩) hst hpl
  exact run_fnS (us := .ref a :: us) (vs := .ref a :: vs) F hr hb (hx σ) I2 (.cons rfl r) q2
end
section
variable {H : Hp} {Q : VK} {σ : L2.St} {te : TE} {C : Addr}
def MethKS (C : Addr) (m : Str) (sp : Sp) (E : XK) (t : TA) (σ : L2.St) (x : V) (H : Hp) (Q : VK) : Prop := ∃ a dx fs, x = .ref a ∧ H a = some (.ins C dx fs) ∧ fs.lookup m = none ∧ t σ H fun vs H2 => sp (x :: vs) H2 Q E
theorem x_methS {m : Str} {sp : Sp} {E : L2.St → XK} {t : TA} (k : te σ H fun x H1 => MethKS C m sp (E σ) t σ x H1 Q) : tMethS C m sp E te t σ H Q := k
theorem x_makeS {sp : Sp} {E : L2.St → XK} {t : TA} (k : t σ H fun vs H1 => ∀ x dx, H1 x = none → H1 dx = none → dx ≠ x → sp (.ref x :: vs) (upd (upd H1 dx (.own x)) x (.ins C dx [])) (fun v H2 => v = .non ∧ Q (.ref x) H2) (E σ)) : tMakeS C sp E t σ H Q := k
theorem x_isN {x : V} (k : Q (.bl (decide (x = .non))) H) : (fun (x y : V) (H : Hp) (Q : VK) => y = .non ∧ Q (.bl (decide (x = .non))) H) x .non H Q := ⟨rfl, k⟩
end
end Er

set_option Elab.async false
set_option linter.all false
set_option maxRecDepth 100000
set_option maxHeartbeats 2000000
/-! a lambda handed to a def that calls it where an error may come -/
namespace Er
open PySem PySem.Spec PyProof.Rows L2 Sx
section
variable {X : Cx}
/-- the body of a lambda, entered at s: an error E may leave it -/
abbrev lamN (X : Cx) (A : Around) (outer : List Env) (s : Shared) (H : Hp) (E : XK) (scope : Scope) (f c' : Addr) : Cx :=
  (LamX.lamCx X A outer s H E scope f c').wish fun e s' => wpAny (model X.prog X.w) (A.deeper (LamX.lamEnv X scope s.heap.objs.size f c')) (leaving (LamX.lamEnv X scope s.heap.objs.size f c') e)
    (fun _ s'' => L2N.CX X.prog X.w outer H s E e s'') (fun e' s'' => L2N.CX X.prog X.w outer H s E e' s'') s'
theorem lamN_takes {A : Around} {outer : List Env} {s : Shared} {H : Hp} {E : XK} {scope : Scope} {f c' : Addr} : L2N.Takes (lamN X A outer s H E scope f c') (fun cls d _ H => E cls d H) :=
  L2N.takes_of rfl rfl rfl rfl
theorem lamN_passes {A : Around} {outer : List Env} {s : Shared} {H : Hp} {E : XK} {scope : Scope} {f c' : Addr} : Passes (L2N.CX X.prog X.w) (lamN X A outer s H E scope f c') E :=
  L2N.passes_call lamN_takes fun _ _ _ _ h => h
/-- what the def that was handed the lambda stands in -/
abbrev hrd (P : Program) (w : World) (K : PySem.W.Frag) (mg : Str → Option Value) (base : Heap) (A : Around) (st : List Env) (N : List Str) (q : Str) (sg : Scope) (g : Addr) (cd : Value) (s : Shared) (H : Hp) : Cx := cxOf C8.CX0 P w K mg base N q sg g cd A st s H C8.E0
/-- a() is the lambda's reading tb; its errors are W's, at the state where it is called -/
def Act (Z : Cx) (a : Str) (f c' : Addr) (q : Str) (tb : XK → Hp → VK → Prop) : Prop :=
  ∀ (W : WX) (pn : List (Addr × Obj)) (xe : Value → Shared → Prop) (p1 p2 : Pos), L2N.Takes (Z.tr pn xe) W →
    PE (Z.tr pn xe) (.Call (.Name a p1) [] [] p2) (fun σZ HZ Q => σZ[0]? = some (some (.ref f)) ∧ HZ c' = some (LamX.CodeO c' q) ∧ tb (fun cls d H' => W cls d σZ H') HZ Q)
/-- the def that calls what it was handed -/
def Hears (P : Program) (w : World) (K : PySem.W.Frag) (mg : Str → Option Value) (base : Heap) (A : Around) (st : List Env) (N : List Str) (x : Str) (sg : Scope) (g : Addr) (cd : Value) (bg : List Stmt) (a : Str) (q : Str) (TT : (XK → Hp → VK → Prop) → Hp → VK → Prop) : Prop :=
  ∀ (f c' : Addr) (s : Shared) (H : Hp) (Q : VK) (tl : XK → Hp → VK → Prop), Act (hrd P w K mg base A st N x sg g cd s H) a f c' q tl → H c' = some (LamX.CodeO c' q) → TT tl H Q →
    ∃ t, PSs (hrd P w K mg base A st N x sg g cd s H).nox bg t ∧ t { nx := fun _ H' => Q .non H', rt := Q } (L2.start N [.ref f]) H
theorem act_of {pins : List (Addr × Obj)} {σ : L2.St} {H : Hp} {s : Shared} {N : List Str} {qg : Str} {sg : Scope} {g f c' : Addr} {cd pm ctv : Value} {params : Arguments} {body : Expr} {scope : Scope} {k : Nat} {a : Str} {t : XK → TE}
    (I : Inv X pins σ H s) (L : LamX.LamS X.env.scope scope) (hf : s.heap.get? f = some (PySem.W.kla_obj "<lambda>" (X.env.qual ++ "<lambda>") params body scope (cloFrom X.env.cells scope.names []) pm c' ctv)) (hn : H f = none) (hfr : f ∉ frs X.stack)
    (hb : bindArgs (PySem.W.kla_fn "<lambda>" (X.env.qual ++ "<lambda>") params body scope (cloFrom X.env.cells scope.names []) pm (.ref c') ctv) ⟨[], []⟩ = pure [])
    (hr : Room (k + 1) (X.A.deeper (envOfC qg sg s.heap.objs.size g cd)))
    (hbody : ∀ (A : Around) (outer : List Env) (s : Shared) (H : Hp) (E : XK), Room k (A.deeper (LamX.lamEnv X scope s.heap.objs.size f c')) → PE (lamN X A outer s H E scope f c') body (t E))
    (hN : N[0]? = some a) (hv : Vis sg a) (hd : (a == ("__debug__" : Str)) = false) (hcd : (a == ("__classdict__" : Str)) = false) :
    Act (hrd X.prog X.w X.K X.mg X.base X.A X.stack N qg sg g cd s H) a f c' (X.env.qual ++ "<lambda>") (fun E H' Q' => t E σ H' Q') := by
  intro W pn xe p1 p2 tk
  refine ⟨fun pZ sZ σZ HZ Q IZ h => ?_⟩
  obtain ⟨h0, hc, ht⟩ := h
  generalize hE : (fun (cls : Value) (d : Option Addr) (H' : Hp) => W cls d σZ H') = E at ht
  have rd := (pe_var (X := (hrd X.prog X.w X.K X.mg X.base X.A X.stack N qg sg g cd s H).tr pn xe) (pos := p1) (i := 0) hN hv hd hcd).run pZ sZ σZ HZ (fun v H1 => v = .ref f ∧ H1 = HZ) IZ ⟨.ref f, h0, rfl, rfl⟩
  refine wpAny_Call_Name_kw (thn rd ?_)
  rintro u s1 ⟨v, H1, I1, r1, ev, eH⟩
  subst ev
  subst eH
  obtain rfl : u = Value.ref f := r1
  have of1 := I1.base.keep f _ hf hn hfr (fun z => nomatch (show f ∈ ([] : List Addr) from z))
  refine PySem.W.callWith_F0 ⟨_, _, _, _, of1⟩ (wpAny_call ?_)
  have un : Un (frs X.stack) [] H H1 s.heap s1.heap := I1.base
  obtain ⟨⟨oc, vs, tok, g1, g2, g3⟩, _, _⟩ := I1.hok c' _ hc
  have rc : codeAny (model X.prog X.w) (X.A.deeper (envOfC qg sg s.heap.objs.size g cd)) (.call (.ref f) ⟨[], []⟩) (CR (L2N.CX X.prog X.w) (envOfC qg sg s.heap.objs.size g cd :: X.stack) X.prog X.w H1 s1 Q E) s1 := by
    refine PySem.W.kla_callFunE hr.depth of1 rfl L.co L.gen rfl ⟨c', oc, vs, tok, rfl, g1, g2, g3⟩ ?_
    rw [hb]
    refine wpAny_pure (wpAny_newFunctionEnv (fun y hy => (L.own y hy).2) (fun y hy => absurd hy (by simp)) (fun h1 ns sb => ⟨I1.nolimit.fresh _ sb, ?_⟩) L.kind)
    have kp : ∀ b o, s1.heap.get? b = some o → h1.get? b = some o := fun b o e => sb.extBut b o (Nat.ne_of_lt (Heap.lt_size e)) (Heap.get?_push_of_some _ e)
    have J := (LamX.lam_start2 (E := E) (f := f) (c' := c') (tk := s1.toks + ([] : List (Str × Value)).length) I L I1.env0 hr.hd un ns kp).wish fun e s' =>
      wpAny (model X.prog X.w) ((X.A.deeper (envOfC qg sg s.heap.objs.size g cd)).deeper (LamX.lamEnv X scope s1.heap.objs.size f c')) (leaving (LamX.lamEnv X scope s1.heap.objs.size f c') e)
        (fun _ s'' => L2N.CX X.prog X.w (envOfC qg sg s.heap.objs.size g cd :: X.stack) H1 s1 E e s'') (fun e' s'' => L2N.CX X.prog X.w (envOfC qg sg s.heap.objs.size g cd :: X.stack) H1 s1 E e' s'') s'
    refine PySem.W.kla_codeExpr (wpAny_mono ((hbody _ _ s1 H1 E (hr.deeper _)).run [] _ _ H1 Q J ht) ?_ fun e s' hq => hq)
    rintro v s' ⟨w', H', J', rv, q⟩
    exact ⟨w', H', J'.os, J'.bare, J'.base, J'.hok, rv, q⟩
  refine codeAny_mono rc fun r s' hq => ?_
  cases r with
  | error e =>
    subst hE
    exact L2N.passAt tk σZ pZ H1 s1 e s' I1 hq
  | ok fl =>
    cases fl with
    | ret u => exact I1.after hq
    | next => exact False.elim hq
    | brk => exact False.elim hq
    | cont => exact False.elim hq
/-- x(lambda: body), x a def that hears -/
theorem pe_hear {T : List (Addr × Str)} {TT : (XK → Hp → VK → Prop) → Hp → VK → Prop} {x a : Str} {g c P : Addr} {k : Nat} {pg : Arguments} {bg : List Stmt} {sg : Scope} {dV kV doc pm cdv ct oc : Value} {an od : Option Addr} {osl : Array (Option Value)} {N : List Str}
    {params : Arguments} {body : Expr} {scope : Scope} {t : XK → TE} {p lpos pos : Pos} (hg : Gl X x) (hm : X.mg x = some (.ref g)) (hk : PySem.W.keepIn X.K (.ref g) = true)
    (lk : X.K.lookup g = some ⟨oc, od, .func (PySem.W.fnOf x x pg bg sg dV kV doc pm an cdv ct), osl⟩) (hcg : PySem.W.codeIn X.K cdv x = true) (hb : L2.Binds X.K (PySem.W.fnOf x x pg bg sg dV kV doc pm an cdv ct) [a] []) (S : FnScope N [a] sg) (hN : N[0]? = some a) (hva : Vis sg a)
    (hG : Hears X.prog X.w X.K X.mg X.base X.A X.stack N x sg g cdv bg a (X.env.qual ++ "<lambda>") TT)
    (TB : LamX.TabB X.base X.mg c P) (hcode : X.env.code = .ref c) (hmT : (P, X.env.qual ++ "<lambda>") ∈ T) (hu : ∀ p ∈ T, p.1 = P → p.2 = X.env.qual ++ "<lambda>") (hr : Room (k + 2) X.A) (L : LamX.LamS X.env.scope scope) (hdef : defaultsOf params X.env = ([], []))
    (hbind : ∀ (q : Str) (cl : List (Str × Addr)) (pm cv ctv : Value), bindArgs (PySem.W.kla_fn "<lambda>" q params body scope cl pm cv ctv) ⟨[], []⟩ = pure [])
    (hbody : ∀ (A : Around) (outer : List Env) (s : Shared) (H : Hp) (E : XK) (f c' : Addr), Room k (A.deeper (LamX.lamEnv X scope s.heap.objs.size f c')) → PE (lamN X A outer s H E scope f c') body (t E))
    (hdb : (x == ("__debug__" : Str)) = false := by decide) (hd : (a == ("__debug__" : Str)) = false := by decide) (hcd : (a == ("__classdict__" : Str)) = false := by decide) :
    PE X (.Call (.Name x p) [.Lambda params body scope lpos] [] pos) (LamX.tLam T TT t) := by
  refine ⟨fun pins s σ H Q I h => ?_⟩
  refine wpAny_Call_Name_kw (ld_glob I hg hm (PySem.W.callWith_K (h₀ := X.base) I.ok.mod.kin hk ?_ (by rfl) (by rfl)) hdb)
  show wpAny _ _ (spliced ((false, eval (.Lambda params body scope lpos) X.env) :: backTo pos (starEach [] X.env))) _ _ s
  refine Calls.spliced_cons (LamX.lam_make2 I TB hcode hmT hu h.1 hdef (L.has I.ok) ?_)
  intro f c' pm' ctv H1 s1 I1 eN T1 hf hfn hfr hco
  refine Calls.spliced_nil ⟨I1.kIn, wpAny_call ?_⟩
  have rc : codeAny (model X.prog X.w) X.A (.call (.ref g) ⟨[.ref f], []⟩) (CR C8.CX0 X.stack X.prog X.w H1 s1 Q C8.E0) s1 := by
    refine LamX.run_ofS (N := N) (ps := [a]) (us := [.ref f]) (vs := [.ref f]) lk hcg S hr I1.env0 (hb s1 [.ref f] I1.kIn rfl) (.cons rfl .nil) rfl ?_
    intro hr'
    have A := act_of (X := X) (t := t) I1 L hf hfn hfr (hbind _ _ _ _ _) hr' (fun A outer s H E hr2 => hbody A outer s H E f c' hr2) hN hva hd hcd
    obtain ⟨u, hu1, hu2⟩ := hG f c' s1 H1 Q _ A hco (h.2 H1 eN T1)
    exact ⟨u, hu1.nox, hu2⟩
  refine codeAny_mono rc fun r s2 hq => ?_
  cases r with
  | error e => exact (show False from hq).elim
  | ok fl =>
    cases fl with
    | ret u => exact I1.after hq
    | next => exact False.elim hq
    | brk => exact False.elim hq
    | cont => exact False.elim hq
/-- the same, of a def of the text -/
theorem pe_hearF {T : List (Addr × Str)} {TT : (XK → Hp → VK → Prop) → Hp → VK → Prop} {x a : Str} {g c P : Addr} {k : Nat} {st : Stmt} {fd : FuncData} {N : List Str} {params : Arguments} {body : Expr} {scope : Scope} {t : XK → TE} {p lpos pos : Pos}
    (F : Fun X.K x x st g fd) (hm : X.mg x = some (.ref g)) (hg : Gl X x) (hb : L2.Binds X.K fd [a] []) (S : FnScope N [a] (defScope st)) (hN : N[0]? = some a) (hva : Vis (defScope st) a)
    (hG : ∀ cdv, Hears X.prog X.w X.K X.mg X.base X.A X.stack N x (defScope st) g cdv (defBody st) a (X.env.qual ++ "<lambda>") TT)
    (TB : LamX.TabB X.base X.mg c P) (hcode : X.env.code = .ref c) (hmT : (P, X.env.qual ++ "<lambda>") ∈ T) (hu : ∀ p ∈ T, p.1 = P → p.2 = X.env.qual ++ "<lambda>") (hr : Room (k + 2) X.A) (L : LamX.LamS X.env.scope scope) (hdef : defaultsOf params X.env = ([], []))
    (hbind : ∀ (q : Str) (cl : List (Str × Addr)) (pm cv ctv : Value), bindArgs (PySem.W.kla_fn "<lambda>" q params body scope cl pm cv ctv) ⟨[], []⟩ = pure [])
    (hbody : ∀ (A : Around) (outer : List Env) (s : Shared) (H : Hp) (E : XK) (f c' : Addr), Room k (A.deeper (LamX.lamEnv X scope s.heap.objs.size f c')) → PE (lamN X A outer s H E scope f c') body (t E))
    (hdb : (x == ("__debug__" : Str)) = false := by decide) (hd : (a == ("__debug__" : Str)) = false := by decide) (hcd : (a == ("__classdict__" : Str)) = false := by decide) :
    PE X (.Call (.Name x p) [.Lambda params body scope lpos] [] pos) (LamX.tLam T TT t) := by
  obtain ⟨oc, od, kV, doc, pm, an, cdv, ct, osl, rfl, lk, hcd2⟩ := F.ex
  exact pe_hear hg hm F.kp lk hcd2 hb S hN hva (hG cdv) TB hcode hmT hu hr L hdef hbind hbody hdb hd hcd
end
end Er

set_option Elab.async false
set_option linter.all false
set_option maxRecDepth 100000
set_option maxHeartbeats 2000000
namespace Ow
open PySem PySem.Spec PyProof.Rows L2 ItX Sx RT
section
variable {K : W.Frag} {H H1 : Hp} {Q : VK} {a b l C dx : Addr} {xs ys : List V} {σ : L2.St} {te : TE} {t : TT} {fs gs : List (Str × V)}
theorem x_catA (h : H a = some (.tup xs)) (h' : H b = some (.tup ys)) (l : xs.length + ys.length ≤ sizeLine) (k : ∀ p H1, Ex H H1 → H1 p = some (.tup (xs ++ ys)) → Q (.ref p) H1) : rCatA K (.ref a) (.ref b) H Q :=
  ⟨a, b, xs, ys, rfl, rfl, SqT.of h, SqT.of h', l, fun e => k b H (Ex.refl _) (by rw [e, List.nil_append]; exact h'), fun _ e => k a H (Ex.refl _) (by rw [e, List.append_nil]; exact h), fun _ _ p hp => k p _ (Ex.new hp) upd_same⟩
theorem x_slA {lo hi : Option Int} (h : H a = some (.tup xs)) (k : ∀ p H1, Ex H H1 → H1 p = some (.tup (cutV xs lo hi)) → Q (.ref p) H1) : rSlA K (.ref a) lo hi H Q :=
  ⟨a, xs, rfl, SqT.of h, fun e => k a H (Ex.refl _) (by unfold cutV; rw [e.1, e.2, List.drop_zero, Nat.sub_zero, List.take_of_length_le (Nat.le_refl _)]; exact h), fun _ p hp => k p _ (Ex.new hp) upd_same⟩
theorem x_repA {n : Int} (h : H a = some (.tup xs)) (h1 : -1000 ≤ n) (h2 : n ≤ 1000) (hl : xs.length ≤ 1000) (k : ∀ p H1, Ex H H1 → H1 p = some (.tup (List.replicate n.toNat xs).flatten) → Q (.ref p) H1) : rRepA K (.ref a) (.int n) H Q := by
  refine ⟨a, n, xs, rfl, rfl, SqT.of h, h1, h2, hl, fun e => k a H (Ex.refl _) ?_, fun _ p hp => k p _ (Ex.new hp) upd_same⟩
  rcases e with e | e
  · rw [h, e]
    congr 2
    induction n.toNat with
    | zero => rfl
    | succ m ih => rw [List.replicate_succ, List.flatten_cons, ← ih]; rfl
  · rw [h, e]
    simp
theorem x_repL {n : Int} (h : H a = some (.lst xs)) (h1 : -1000 ≤ n) (h2 : n ≤ 1000) (hl : xs.length ≤ 1000) (k : ∀ p H1, Ex H H1 → H p = none → H1 p = some (.lst (List.replicate n.toNat xs).flatten) → Q (.ref p) H1) : rRep (.ref a) (.int n) H Q := by
  refine ⟨a, n, xs, rfl, rfl, h, by omega, by omega, ?_, fun p hp => k p _ (Ex.new hp) hp upd_same⟩
  have a1 : xs.length * n.toNat ≤ 1000 * 1000 := Nat.mul_le_mul hl (by omega)
  exact Nat.le_trans a1 (by decide)
theorem x_invC {sp : Sp} {E : XK} (hp : H a = some (.ins C dx fs)) (k : sp [.ref a] H Q E) : rInvC C sp E (.ref a) H Q := ⟨a, dx, fs, rfl, hp, k⟩
theorem x_binC {sp : Sp} {E : XK} {dy : Addr} (hp : H a = some (.ins C dx fs)) (hq : H b = some (.ins C dy gs)) (k : sp [.ref a, .ref b] H (fun v H' => (∃ r, v = .ref r) ∧ Q v H') E) : rBinC C sp E (.ref a) (.ref b) H Q := ⟨a, dx, fs, b, dy, gs, rfl, rfl, hp, hq, k⟩
/-- reversed(a tuple) -/
def RevK (K : W.Frag) (x : V) (H1 : Hp) (R : It → Hp → Prop) : Prop := ∃ (a : Addr) (xs : List V), x = .ref a ∧ ((SqL K H1 a xs ∧ R (Itv K a xs.length) H1) ∨ (SqT K H1 a xs ∧ R (ItvT K a xs.length) H1))
theorem x_iRev {R : It → Hp → Prop} (k : te σ H fun x H1 => RevK K x H1 R) : iRevA K te σ H R := k
theorem lc_rev {j : Nat} {vs : List Nat} (hx : H1 a = some (.tup xs)) (I : Nat → List V → Hp → Prop) (h0 : I 0 [] H1) (mono : ∀ i acc H H', Tx H H' → I i acc H → I i acc H') (nb : ∀ i acc H, I i acc H → NB (.lst acc) ∧ acc.length < sizeLine)
    (hw : ∀ x, wipe ((wipe σ vs).set j (some x)) vs = wipe σ vs)
    (turn : ∀ (i : Nat) x acc H', xs.reverse[i]? = some x → Ex H1 H' → I i acc H' → ∀ kk : Option V → Hp → Prop, (∀ y H4, Ex H' H4 → I (i + 1) (acc ++ [y]) H4 → kk (some y) H4) → (∀ H4, Ex H' H4 → I (i + 1) acc H4 → kk none H4) →
      t ((wipe σ vs).set j (some x)) H' fun b H3 => if b = true then te ((wipe σ vs).set j (some x)) H3 (fun y H4 => kk (some y) H4) else kk none H3)
    (k : ∀ p ys H2, Ex H1 H2 → H1 p = none → H2 p = some (.lst ys) → I xs.length ys H2 → Q (.ref p) H2) : RevK K (.ref a) H1 fun J H2 => LcGo J (gName j) t te vs σ H2 Q := by
  have hq : ∀ H', Ex H1 H' → SqT K H' a xs := fun H' e => SqT.of (e.kp _ _ hx NB.tup)
  refine ⟨a, xs, rfl, .inr ⟨SqT.of hx, lc_any (n := xs.length) I h0 mono nb (fun i H' hi e => ⟨hi, xs, xs[xs.length - 1 - i], hq H' e, by simp⟩) (fun H' e => Nat.le_refl _) (fun i acc x H' H'' hi e q y kk k1 k2 => ?_) k⟩⟩
  obtain ⟨rfl, y⟩ := y
  refine ⟨hw _, turn i x acc _ ?_ e q kk k1 k2⟩
  rw [List.getElem?_reverse hi]
  exact y xs (hq _ e)
end
theorem x_iteMD {c : Prop} [Decidable c] {ta tb : TE} {σ : L2.St} {H1 : Hp} {Q : VK} (R : V → Hp → Prop) (kA : c → ∀ (Q' : VK), (∀ v H2, R v H2 → Q' v H2) → ta σ H1 Q') (kB : ¬ c → ∀ (Q' : VK), (∀ v H2, R v H2 → Q' v H2) → tb σ H1 Q') (k : ∀ v H2, R v H2 → Q v H2) : if decide c = true then ta σ H1 Q else tb σ H1 Q := by
  by_cases h : c
  · rw [decide_eq_true h, if_pos rfl]; exact kA h Q k
  · rw [decide_eq_false h, if_neg Bool.false_ne_true]; exact kB h Q k
section
variable {X : Cx} {sB : Shared} {HB : Hp} {scope : Scope} {cenv : Env} {fp : List Addr} {e : Expr} {ta : TE} {f : Str} {pos : Pos}
theorem pe_fldB (he : PE (X.blk sB HB scope cenv fp) e ta) (hb : attributeBase e f (X.blk sB HB scope cenv fp).env (eval e (X.blk sB HB scope cenv fp).env) = eval e (X.blk sB HB scope cenv fp).env) : PE (X.blk sB HB scope cenv fp) (.Attribute e f pos) (tFld X.K ta f) := pe_fld (X := X.blk sB HB scope cenv fp) he hb
end
end Ow

set_option Elab.async false
set_option linter.all false
set_option maxRecDepth 100000
set_option maxHeartbeats 2000000
/-! what stays where lambdas are made: the tables of code objects grow -/
namespace Er
open PySem PySem.Spec PyProof.Rows L2 Sx
/-- all but bags and tables stands as it stood, bags are bags, the tables T are tables -/
structure Ew (T : List (Addr × Str)) (H H' : Hp) : Prop where
  kp : ∀ a o, H a = some o → NB o → (∀ ps, o ≠ .tbl ps) → H' a = some o
  bg : ∀ b c, BagC b c H → BagC b c H'
  tb : LamX.Tabs T H → LamX.Tabs T H'
theorem NB.tbl {ps : Array Value} : NB (.tbl ps) := fun _ _ _ _ h => nomatch h
theorem codeO_nb {c : Addr} {q : Str} : NB (LamX.CodeO c q) := Ow.NB.ext
section
variable {T : List (Addr × Str)} {H H1 H2 : Hp} {p a b c l P : Addr} {q : Str} {o : HO} {xs : List V}
theorem Ex.tabS (e : Ex H H1) (t : LamX.TabS H P q) : LamX.TabS H1 P q := by
  obtain ⟨ps, h1, h2, h3⟩ := t
  refine ⟨ps, e.kp _ _ h1 NB.tbl, h2, fun pos cv hc => ?_⟩
  obtain ⟨c, e1, e2⟩ := h3 pos cv hc
  exact ⟨c, e1, e.kp _ _ e2 codeO_nb⟩
theorem Ew.of (e : Ex H H1) : Ew T H H1 := ⟨fun a o h n _ => e.kp a o h n, e.bg, fun t p hp => Ex.tabS e (t p hp)⟩
theorem Ew.refl : Ew T H H := ⟨fun _ _ h _ _ => h, fun _ _ h => h, fun h => h⟩
theorem Ew.trans (e : Ew T H H1) (f : Ew T H1 H2) : Ew T H H2 := ⟨fun a o h n t => f.kp a o (e.kp a o h n t) n t, fun b c h => f.bg b c (e.bg b c h), fun t => f.tb (e.tb t)⟩
theorem Ew.lam (n : LamX.ExtN H H1) (t : LamX.Tabs T H1) : Ew T H H1 :=
  ⟨fun a o h _ k => n a o h k, fun b c ⟨x, y, z, ns, e1, e2, r⟩ => ⟨x, y, z, ns, n _ _ e1 (fun _ h => nomatch h), n _ _ e2 (fun _ h => nomatch h), r⟩, fun _ => t⟩
theorem Ew.bag (e : Ew T H H1) (h : Bag b H) : Bag b H1 := let ⟨c, q⟩ := h; ⟨c, e.bg b c q⟩
theorem Ew.tup (e : Ew T H H1) (h : H a = some (.tup xs)) : H1 a = some (.tup xs) := e.kp _ _ h NB.tup (fun _ h => nomatch h)
theorem Ew.lst (e : Ew T H H1) (h : H a = some (.lst xs)) (n : NB (.lst xs)) : H1 a = some (.lst xs) := e.kp _ _ h n (fun _ h => nomatch h)
theorem Ew.ins {C dx : Addr} {fs : List (Str × V)} (e : Ew T H H1) (h : H a = some (.ins C dx fs)) : H1 a = some (.ins C dx fs) := e.kp _ _ h NB.ins (fun _ h => nomatch h)
theorem Ew.dK {kvs : List (Key × V)} (e : Ew T H H1) (h : H a = some (.dK kvs)) : H1 a = some (.dK kvs) := e.kp _ _ h NB.dK (fun _ h => nomatch h)
/-- a list made in between may be changed -/
theorem Ew.mut (e : Ew T H H1) (h : H l = none) (hl : H1 l = some (.lst xs)) : Ew T H (upd H1 l o) := by
  refine ⟨fun a o' q n t => ?_, fun b c q => ?_, fun t p hp => ?_⟩
  · rw [upd_ne (ne_of_none q h)]
    exact e.kp a o' q n t
  · obtain ⟨x0, y0, z0, ns0, k1, k2, _⟩ := id q
    obtain ⟨x, y, z, ns, e1, e2, r⟩ := e.bg b c q
    exact ⟨x, y, z, ns, by rw [upd_ne (ne_of_none k1 h)]; exact e1, by rw [upd_ne (ne_of_none k2 h)]; exact e2, r⟩
  · obtain ⟨ps0, k0, _⟩ := t p hp
    obtain ⟨ps, h1, h2, h3⟩ := e.tb t p hp
    refine ⟨ps, by rw [upd_ne (ne_of_none k0 h)]; exact h1, h2, fun pos cv hc => ?_⟩
    obtain ⟨c, e1, e2⟩ := h3 pos cv hc
    have nl : c ≠ l := by
      intro z
      subst z
      rw [hl] at e2
      exact nomatch (Option.some.inj e2)
    exact ⟨c, e1, by rw [upd_ne nl]; exact e2⟩
variable {TT : (XK → Hp → VK → Prop) → Hp → VK → Prop} {t : XK → TE} {σ : L2.St} {Q : VK}
theorem x_hear (h : LamX.Tabs T H) (k : ∀ H1, Ew T H H1 → LamX.Tabs T H1 → TT (fun E H' Q' => t E σ H' Q') H1 Q) : LamX.tLam T TT t σ H Q :=
  ⟨h, fun H1 n t1 => k H1 (Ew.lam n t1) t1⟩
end
end Er
namespace Er
open PySem PySem.Spec PyProof.Rows L2 Sx
/-! ### how often a truth stands in a list of truths -/
def isB (b : Bool) : Value → Bool
  | .bool c => c == b
  | _ => false
theorem bls_count {b : Bool} : ∀ {bs : List Bool} {us : List Value}, Vals (bs.map V.bl) us → us.countP (isB b) = bs.count b ∧ ∀ (A : Around) (s : Shared), ∀ y ∈ us, SeqAt.EqAt A s y (.bool b) (isB b y)
  | [], us, r => by
    cases r
    exact ⟨rfl, fun _ _ y hy => nomatch hy⟩
  | c :: bs, us, r => by
    cases r with
    | cons h r =>
      rename_i u us
      obtain rfl : u = .bool c := h
      obtain ⟨h1, h2⟩ := bls_count r
      refine ⟨?_, fun A s y hy => ?_⟩
      · rw [List.countP_cons, List.count_cons, h1]
        rfl
      · rcases List.mem_cons.mp hy with e | e
        · rw [e]
          exact SeqAt.EqAt.bool_bool c b
        · exact h2 A s y e
def rCntB (K : PySem.W.Frag) : V → List V → Hp → VK → Prop := fun x xs H Q => ∃ (p : Addr) (bs : List Bool) (b : Bool), x = .ref p ∧ xs = [.bl b] ∧ SqL K H p (bs.map V.bl) ∧ Q (.int (bs.count b : Nat)) H
theorem mt_countB {X : Cx} : MtR X "list.count" (rCntB X.K) := by
  intro pins s σ H x xs v us Q I rx rxs h
  obtain ⟨p, bs, b, rfl, rfl, hs, q⟩ := h
  cases rx
  obtain ⟨u, rfl, ru⟩ := rxs.one
  obtain rfl : u = .bool b := ru
  obtain ⟨its, rv, ⟨⟨cls, dd, data, sl⟩, n, ho, hc, hdn, hd⟩, hlen⟩ := I.list hs
  simp only at hc hd
  subst hc hd
  obtain ⟨h1, h2⟩ := bls_count (b := b) rv
  refine call_meets PySem.F.slot_list_count ⟨_, ho, rfl⟩ PySem.F.entry_list_count (PySem.F.args_list_count_2 _ _)
    (SeqAt.list_countAt p its.toArray n dd sl (.bool b) (isB b)) ⟨ho, fun y hy => h2 _ _ y (by simpa using hy), ?_⟩
  refine ⟨.int (bs.count b : Nat), H, I.tok _, ⟨s.toks, ?_⟩, q⟩
  show Value.int ((its.toArray.toList.countP (isB b) : Nat) : Int) s.toks = Value.int ((bs.count b : Nat) : Int) s.toks
  rw [show its.toArray.toList.countP (isB b) = bs.count b from h1]
theorem x_countB {K : PySem.W.Frag} {H : Hp} {Q : VK} {p : Addr} {bs : List Bool} {b : Bool} (h : H p = some (.lst (bs.map V.bl))) (k : Q (.int (bs.count b : Nat)) H) : rCntB K (.ref p) [.bl b] H Q := ⟨p, bs, b, rfl, rfl, SqL.of h, k⟩
end Er
namespace Er
open PySem PySem.Spec PyProof.Rows L2 Sx
/-! ### what names K, within the suite of an except -/
section
variable {X : Cx} {z : Addr} {pn : List (Addr × Obj)} {T : String} {name : Str} {id : String} {r : V → List V → Hp → VK → Prop} {o e : Expr} {es : List Expr} {to : TE} {t : TA} {apos cpos : Pos}
theorem ix_listS : IxR (X.suite z pn) (rIxL X.K) := ix_list (X := X.suite z pn)
theorem mt_countS : MtR (X.suite z pn) "list.count" (rCntB X.K) := mt_countB (X := X.suite z pn)
theorem pe_bmS (pa : PlainAttrs T) (slot : Slot T name id) (hty : typeOf (.builtin id) = pure (.type "method_descriptor")) (hm : MtR (X.suite z pn) id r) (ho : PE (X.suite z pn) o to) (ha : PA (X.suite z pn) (e :: es) t)
    (hbase : attributeBase o name (X.suite z pn).env (eval o (X.suite z pn).env) = eval o (X.suite z pn).env := by rfl)
    (hfew : ((backTo cpos (starEach (e :: es) (X.suite z pn).env)).all (fun x => !x.1) && (backToKw cpos (keywordEach [] (X.suite z pn).env)).all (fun x => x.1.isSome)
      && decide ((e :: es).length + ([] : List Keyword).length + (if ([] : List Keyword).isEmpty then 0 else 1) < 30)) = true := by rfl)
    (hline : (apos.endLine == cpos.line) = true := by rfl) (hs : starEach (e :: es) (X.suite z pn).env = (false, eval e (X.suite z pn).env) :: starEach es (X.suite z pn).env := by rfl) (hplain : (backTo cpos (starEach es (X.suite z pn).env)).any (·.1) = false := by rfl) :
    PE (X.suite z pn) (.Call (.Attribute o name apos) (e :: es) [] cpos) (tBM X.K T r to t) := pe_bm (X := X.suite z pn) pa slot hty hm ho ha hbase hfew hline hs hplain
end
end Er

set_option Elab.async false
set_option linter.all false
set_option maxRecDepth 100000
set_option maxHeartbeats 2000000
/-! the end of a law that shows data and makes lambdas -/
namespace Er
open PySem PySem.Spec PyProof.Rows L2 Sx Ow
section
variable {P : Program} {w : World} {K : PySem.W.Frag} {mg mb : Str → Option Value} {k : Nat} {fa a : Addr} {fd : FuncData} {x : Str} {sp : Sp} {s : Shared} {vs : List Value} {ns : List Int} {cs : List (Addr × Addr)}
abbrev tab0 : Obj := { cls := .none, data := .fields #[] }
theorem law_fromT {H : Hp} (KX : K.In s.heap) (hns : s.heap.Ns mainGlobals mg) (hb : s.heap.Ns builtinsNs mb) (hbb : ∀ x : Str, x ≠ "__name__" → mb x = bootBuiltins x) (lim : s.heap.NoLimit) (hg : s.gens = #[])
    (hT : ∀ p ∈ cs, s.heap.get? p.2 = some tab0) (nT : ∀ p ∈ cs, K.lookup p.2 = none) (C : ∀ p ∈ cs, PySem.W.codeHdIn K p.1 p.2 = true)
    (hbm : ∃ (bm : Addr) (ob : Obj), mg "__builtins__" = some (.ref bm) ∧ bm ≠ builtinsNs ∧ s.heap.get? bm = some ob ∧ ob.cls = .type "module" ∧ ob.dict = some builtinsNs ∧ ob.data = .plain)
    (at_ : s.heap.get? a = some { cls := .type "list", data := .seq vs.toArray }) (hr : Room k callerA)
    (F : ∀ base : Heap, K.In base → base.Ns mainGlobals mg → (∀ p ∈ cs, LamX.TabB base mg p.1 p.2) → FnG P w K mg base CX0 k fa fd [x] sp) (bind : ∀ (s : Shared) (u : Value), BindsTo s fd ⟨[u], []⟩ [(x, u)])
    (hsp : sp [.ref a] H (fun v _ => v = .bl true) fun _ _ _ => False) (ok : HOk P w H s.heap) (here : ∀ b, H b ≠ none → b = a ∨ ∃ p ∈ cs, p.2 = b) (frz : ∀ u, H a = some u → ∃ o xs, u = .frz o (.lst xs)) (tbs : ∀ p ∈ cs, H p.2 = some (.tbl #[])) (out : H a ≠ none → K.lookup a = none) :
    codeAny (model P w) callerA (.call (.ref fa) ⟨[.ref a], []⟩) (fun r s' => r = .ok (.ret (.bool true)) ∧ OldK s.heap s'.heap ∧ s'.os = s.os ∧ AllBare s'.gens) s := by
  have away : ∀ {b : Addr}, b ≠ a → (∀ p ∈ cs, p.2 ≠ b) → H b = none := fun {b} n m => by
    cases e : H b with
    | none => rfl
    | some u =>
      rcases here b (by rw [e]; exact nofun) with z | ⟨p, hp, z⟩
      · exact absurd z n
      · exact absurd z (m p hp)
  have other : ∀ {b : Addr} {o : Obj}, s.heap.get? b = some o → (∀ xs n, o.data ≠ .seq xs n) → (∀ xs, o.data ≠ .fields xs) → H b = none := fun {b o} e d1 d2 => away (fun z => by
    rw [z, at_] at e
    cases e
    exact d1 _ _ rfl) fun p hp z => by
    rw [← z, hT p hp] at e
    cases e
    exact d2 _ rfl
  have dict : ∀ {b : Addr} {o : Obj} {es : Array DictEntry} {n : Nat}, s.heap.get? b = some o → o.data = .dict es n → H b = none := fun e d => other e (fun _ _ z => by rw [d] at z; cases z) (fun _ z => by rw [d] at z; cases z)
  have kin : ∀ {b : Addr} {o : Obj}, K.lookup b = some o → H b = none := fun {b o} e => by
    by_cases z : b = a
    · cases q : H a with
      | none => rw [z]; exact q
      | some u =>
        have := out (by rw [q]; exact nofun)
        rw [z, this] at e
        cases e
    · exact away z fun p hp y => by
        rw [← y, nT p hp] at e
        cases e
  have KB : K.In (hidT s.heap H) := fun b o e => hidT_get (KX b o e) (kin e)
  have nsB : ∀ {b : Addr} {m : Str → Option Value}, s.heap.Ns b m → (hidT s.heap H).Ns b m := fun {b m} ⟨o, es, n, e, d, r⟩ => ⟨o, es, n, hidT_get e (dict e d), d, r⟩
  have md : Mod K mg (hidT s.heap H) := ⟨KB, nsB hns, ⟨mb, nsB hb, hbb⟩, by obtain ⟨mc, l1, l2⟩ := lim; exact ⟨mc, nsB l1, l2⟩⟩
  have gl : ∀ p ∈ cs, mainGlobals ≠ p.2 := fun p hp z => by
    obtain ⟨o, es, n, e, d, _⟩ := hns
    rw [z, hT p hp] at e
    cases e
    cases d
  have TB : ∀ p ∈ cs, LamX.TabB (hidT s.heap H) mg p.1 p.2 := fun p hp => by
    refine ⟨PySem.W.codeHd_of_K KB (C p hp), ?_, gl p hp⟩
    obtain ⟨bm, ob, b1, b2, b3, b4, b5, b6⟩ := hbm
    refine ⟨bm, ob, b1, b2, fun z => ?_, fun z => ?_, hidT_get b3 (other b3 (fun _ _ z => by rw [b6] at z; cases z) (fun _ z => by rw [b6] at z; cases z)), b4, b5, b6⟩
    · obtain ⟨o, es, n, e, d, _⟩ := hns
      rw [z, e] at b3
      cases b3
      rw [d] at b6
      cases b6
    · rw [z, hT p hp] at b3
      cases b3
      cases b6
  have env : Env0 P w K mg (hidT s.heap H) callerA [] s H := ⟨rfl, md, fun b o e => of_hidT e, by rw [hidT_size]; exact Nat.le_refl _, trivial, fun b z => (nomatch z), ok, .of_eq hg⟩
  refine codeAny_mono ((F _ KB (nsB hns) TB).go callerA [] s H ⟨[.ref a], []⟩ [.ref a] [.ref a] _ _ rfl hr env (bind s _) (.cons rfl .nil) hsp) fun way sE z => ?_
  match way, z with
  | .ok (.ret u), ⟨v, H', e1, e2, un, ok', rv, (q : v = .bl true)⟩ =>
    subst q
    cases rv
    have same : ∀ b o, (∀ p ∈ cs, p.2 ≠ b) → s.heap.get? b = some o → sE.heap.get? b = some o := fun b o m e => by
      by_cases z : H b = none
      · exact un.keep b o e z (fun m => nomatch m) (fun m => nomatch m)
      · rcases here b z with y | ⟨p, hp, y⟩
        · subst y
          cases q : H b with
          | none => exact absurd q z
          | some u =>
            obtain ⟨o', xs, rfl⟩ := frz u q
            have f1 := (ok b _ q).1
            rw [e] at f1
            cases f1
            exact (ok' b _ (un.frzs b _ _ q)).1
        · exact absurd y (m p hp)
    have grown : ∀ p ∈ cs, ∃ more : Array Value, sE.heap.get? p.2 = some { cls := .none, data := .fields (#[] ++ more) } := fun p hp => by
      obtain ⟨more, z⟩ := un.tbls p.2 #[] (tbs p hp)
      exact ⟨more, ok' p.2 _ z⟩
    refine ⟨rfl, ⟨fun b o e => ?_, fun b o e => ?_⟩, e1, e2⟩
    · by_cases m : ∃ p ∈ cs, p.2 = b
      · obtain ⟨p, hp, y⟩ := m
        obtain ⟨more, z⟩ := grown p hp
        subst y
        rw [hT p hp] at e
        cases e
        exact .inr (.inl ⟨((PySem.W.codeHd_of_K KX (C p hp)).tab (hT p hp)).isCodeTable, rfl, #[], more, rfl, z⟩)
      · exact .inl (same b o (fun p hp y => m ⟨p, hp, y⟩) e)
    · by_cases m : ∃ p ∈ cs, p.2 = b
      · obtain ⟨p, hp, y⟩ := m
        obtain ⟨more, z⟩ := grown p hp
        subst y
        exact ⟨_, z⟩
      · exact ⟨o, same b o (fun p hp y => m ⟨p, hp, y⟩) e⟩
/-- the abstract heap of the tables alone -/
def HT (cs : List (Addr × Addr)) : Hp := fun b => if b ∈ cs.map (·.2) then some (.tbl #[]) else none
theorem HT.at_ {p : Addr × Addr} (h : p ∈ cs) : HT cs p.2 = some (.tbl #[]) := if_pos (List.mem_map.mpr ⟨p, h, rfl⟩)
theorem HT.some {b : Addr} {u : HO} (h : HT cs b = .some u) : (∃ p ∈ cs, p.2 = b) ∧ u = .tbl #[] := by
  unfold HT at h
  split at h
  · next m =>
    obtain ⟨p, hp, e⟩ := List.mem_map.mp m
    exact ⟨⟨p, hp, e⟩, (Option.some.inj h).symm⟩
  · cases h
theorem HT.none {b : Addr} (h : ∀ p ∈ cs, p.2 ≠ b) : HT cs b = .none := if_neg fun m => by
  obtain ⟨p, hp, e⟩ := List.mem_map.mp m
  exact h p hp e
theorem law_goesT (KX : K.In s.heap) (hns : s.heap.Ns mainGlobals mg) (hb : s.heap.Ns builtinsNs mb) (hbb : ∀ x : Str, x ≠ "__name__" → mb x = bootBuiltins x) (lim : s.heap.NoLimit) (hg : s.gens = #[])
    (hT : ∀ p ∈ cs, s.heap.get? p.2 = some tab0) (nT : ∀ p ∈ cs, K.lookup p.2 = none) (C : ∀ p ∈ cs, PySem.W.codeHdIn K p.1 p.2 = true)
    (hbm : ∃ (bm : Addr) (ob : Obj), mg "__builtins__" = some (.ref bm) ∧ bm ≠ builtinsNs ∧ s.heap.get? bm = some ob ∧ ob.cls = .type "module" ∧ ob.dict = some builtinsNs ∧ ob.data = .plain)
    (at_ : s.heap.get? a = some { cls := .type "list", data := .seq vs.toArray }) (hin : IntsAre vs ns) (hl : ns.length ≤ sizeLine) (hr : Room k callerA)
    (F : ∀ base : Heap, K.In base → base.Ns mainGlobals mg → (∀ p ∈ cs, LamX.TabB base mg p.1 p.2) → FnG P w K mg base CX0 k fa fd [x] sp) (bind : ∀ (s : Shared) (u : Value), BindsTo s fd ⟨[u], []⟩ [(x, u)])
    (hsp : ∀ H : Hp, (∀ p ∈ cs, H p.2 = some (.tbl #[])) → SqL K H a (ns.map V.int) → sp [.ref a] H (fun v _ => v = .bl true) fun _ _ _ => False) :
    codeAny (model P w) callerA (.call (.ref fa) ⟨[.ref a], []⟩) (fun r s' => r = .ok (.ret (.bool true)) ∧ OldK s.heap s'.heap ∧ s'.os = s.os ∧ AllBare s'.gens) s := by
  have rv := vals_ints hin
  have nA : ∀ p ∈ cs, p.2 ≠ a := fun p hp z => by
    have := hT p hp
    rw [z, at_] at this
    cases this
  have hA : HT cs a = none := HT.none nA
  cases e : K.lookup a with
  | some o =>
    have e2 := (KX a o e).symm.trans at_
    cases e2
    have sq : SqL K (HT cs) a (ns.map V.int) := .inr ⟨_, vs.toArray, _, e, rfl, rfl, rfl, by rw [List.size_toArray, hin.length]; exact hl, rv⟩
    refine law_fromT (H := HT cs) KX hns hb hbb lim hg hT nT C hbm at_ hr F bind (hsp _ (fun p hp => HT.at_ hp) sq) (fun b u q => ?_) (fun b q => ?_) (fun u q => ?_) (fun p hp => HT.at_ hp) fun q => absurd hA q
    · obtain ⟨⟨p, hp, rfl⟩, rfl⟩ := HT.some q
      exact hT p hp
    · cases z : HT cs b with
      | none => exact absurd z q
      | some u => exact .inr (HT.some z).1
    · rw [hA] at q
      cases q
  | none =>
    have one : ∀ {b u}, upd (HT cs) a (.frz { cls := .type "list", data := .seq vs.toArray } (.lst (ns.map V.int))) b = some u → (b = a ∧ u = .frz { cls := .type "list", data := .seq vs.toArray } (.lst (ns.map V.int))) ∨ ((∃ p ∈ cs, p.2 = b) ∧ u = .tbl #[]) := fun {b u} q => by
      by_cases z : b = a
      · rw [z, upd_same] at q
        exact .inl ⟨z, (Option.some.inj q).symm⟩
      · rw [upd_ne z] at q
        exact .inr (HT.some q)
    refine law_fromT (H := upd (HT cs) a (.frz { cls := .type "list", data := .seq vs.toArray } (.lst (ns.map V.int)))) KX hns hb hbb lim hg hT nT C hbm at_ hr F bind
      (hsp _ (fun p hp => by rw [upd_ne (nA p hp)]; exact HT.at_ hp) (.inl (.inr ⟨_, upd_same⟩))) (fun b u q => ?_) (fun b q => ?_) (fun u q => ?_) (fun p hp => by rw [upd_ne (nA p hp)]; exact HT.at_ hp) fun _ => e
    · rcases one q with ⟨rfl, rfl⟩ | ⟨⟨p, hp, rfl⟩, rfl⟩
      · exact ⟨at_, by rw [List.length_map]; exact hl, vs, _, rv, at_⟩
      · exact hT p hp
    · cases z : upd (HT cs) a (.frz { cls := .type "list", data := .seq vs.toArray } (.lst (ns.map V.int))) b with
      | none => exact absurd z q
      | some u =>
        rcases one z with ⟨h, _⟩ | ⟨h, _⟩
        · exact .inl h
        · exact .inr h
    · rw [upd_same] at q
      exact ⟨_, _, (Option.some.inj q).symm⟩
end
/-- the walk of a law that shows data and makes lambdas -/
theorem walk_GT {l : PySem.W.OpenLaw} {n k : Nat} {q : Program} {loose : List Str} {XP : (Str → Option Value) → Heap → Prop} {YP : World → Heap → Prop} {d : DefRec} {K : Params → PySem.W.Frag} {x : Str}
    (hn : l.most = some n) (small : n ≤ sizeLine) (hdf : d.params.defaults = []) (hr : Room k callerA) (hY : ∀ (w : World) (h : Heap), YP w h → (K w.params).In h)
    (F : ∀ (w : World) (mg : Str → Option Value) (fa : Addr) (h : Heap), YP w h → (K w.params).In h → h.Ns mainGlobals mg → mg d.name = some (.ref fa) →
      ∃ (fd : FuncData) (cs : List (Addr × Addr)) (sp : Sp), (∀ p ∈ cs, h.get? p.2 = some tab0) ∧ (∀ p ∈ cs, (K w.params).lookup p.2 = none) ∧ (∀ p ∈ cs, PySem.W.codeHdIn (K w.params) p.1 p.2 = true) ∧ (∀ (s : Shared) (u : Value), BindsTo s fd ⟨[u], []⟩ [(x, u)]) ∧
        (∀ (H : Hp) (a : Addr) (ns : List Int), ns.length ≤ n → (∀ p ∈ cs, H p.2 = some (.tbl #[])) → SqL (K w.params) H a (ns.map V.int) → sp [.ref a] H (fun v _ => v = .bl true) fun _ _ _ => False) ∧
        ∀ base : Heap, (K w.params).In base → base.Ns mainGlobals mg → (∀ p ∈ cs, LamX.TabB base mg p.1 p.2) → FnG l.prog w (K w.params) mg base CX0 k fa fd [x] sp) :
    PySem.W.WalkO q loose XP YP l.row.toRowW d [] (fun f vs => PySem.call f vs) := by
  refine Att.attach_call hn hdf fun w s₀ s₁ mg mb fa o pm cd doc a vs ns G Y _ _ _ hmg at_ hin hlen hg => ?_
  obtain ⟨fd, cs, sp, hT, nT, C, bind, hsp, go⟩ := F w mg fa _ Y (hY w _ Y) G.T.g hmg
  exact law_goesT (hY w _ Y) G.T.g G.T.b G.T.builtins G.T.nolimit hg hT nT C G.T.bmain at_ hin (Nat.le_trans hlen small) hr go bind fun H hH h => hsp H a ns hlen hH h
end Er

set_option Elab.async false
set_option linter.all false
set_option maxRecDepth 100000
set_option maxHeartbeats 2000000
/-! a def whose code object is known: it makes lambdas -/
namespace Er
open PySem PySem.Spec PyProof.Rows L2 Sx Ow
structure FunC (K : PySem.W.Frag) (x qual : Str) (st : Stmt) (f c : Addr) (fd : FuncData) : Prop where
  ex : ∃ (oc : Value) (od : Option Addr) (kV doc pm : Value) (an : Option Addr) (ct : Value) (osl : Array (Option Value)),
    fd = PySem.W.fnOf x qual (defArgs st) (defBody st) (defScope st) .none kV doc pm an (.ref c) ct ∧ K.lookup f = some ⟨oc, od, .func fd, osl⟩ ∧ PySem.W.codeIn K (.ref c) qual = true
section
variable {P : Program} {w : World} {K : PySem.W.Frag} {mg : Str → Option Value} {base : Heap} {k : Nat} {f c : Addr} {fd : FuncData} {ps N : List Str} {sp : Sp} {x qual : Str} {st : Stmt}
theorem funC_mk {oc : Value} {od an : Option Addr} {osl : Array (Option Value)} {kV doc pm cdv ct : Value} (l : K.lookup f = some ⟨oc, od, .func (PySem.W.fnOf x qual (defArgs st) (defBody st) (defScope st) .none kV doc pm an cdv ct), osl⟩)
    (h : PySem.W.codeIn K cdv qual = true) (e : cdv = .ref c) : FunC K x qual st f c (PySem.W.fnOf x qual (defArgs st) (defBody st) (defScope st) .none kV doc pm an cdv ct) := by
  subst e
  exact ⟨oc, od, kV, doc, pm, an, ct, osl, rfl, l, h⟩
theorem fn_atC {CX : CXT} (F : FunC K x qual st f c fd) (S : FnScope N ps (defScope st))
    {A : Around} {outer : List Env} {s : Shared} {H : Hp} {args : Args} {us : List Value} {vs : List V} {Q : VK} {E : XK} (hl : vs.length = ps.length) (hr : Room (k + 1) A) (e0 : Env0 P w K mg base A outer s H) (hb : BindsTo s fd args (ps.zip us)) (r : Vals vs us)
    (hbody : ∃ t, PSs (cxOf CX P w K mg base N qual (defScope st) f (.ref c) A outer s H E) (defBody st) t ∧ t { nx := fun _ H' => Q .non H', rt := Q } (L2.start N vs) H) :
    codeAny (model P w) A (.call (.ref f) args) (CR CX outer P w H s Q E) s := by
  obtain ⟨oc, od, kV, doc, pm, an, ct, osl, rfl, lk, hcd⟩ := F.ex
  exact LamX.run_ofS lk hcd S hr e0 hb r hl fun _ => hbody
/-- such a def by its body (it shows data: no repr is under way) -/
theorem fnG_ofC (F : FunC K x qual st f c fd) (S : FnScope N ps (defScope st)) (same : ∀ vs H Q E, sp vs H Q E → vs.length = ps.length)
    (body : ∀ (A : Around) (outer : List Env) (s : Shared) (H : Hp) (vs : List V) (Q : VK) (E : XK), A.guards = some [] → Room k (A.deeper (envOfC qual (defScope st) s.heap.objs.size f (.ref c))) → sp vs H Q E →
      ∃ t, PSs (cxOf CX0 P w K mg base N qual (defScope st) f (.ref c) A outer s H E).nox (defBody st) t ∧ t { nx := fun _ H' => Q .non H', rt := Q } (start N vs) H) : FnG P w K mg base CX0 (k + 1) f fd ps sp :=
  ⟨same, fun A outer s H args us vs Q E hg hr e0 hb r h => fn_atC F S (same _ _ _ _ h) hr e0 hb r (by
    obtain ⟨t, p, q⟩ := body A outer s H vs Q E hg (hr.deeper _) h
    exact ⟨t, p.nox, q⟩)⟩
end
end Er

set_option Elab.async false
set_option linter.all false
set_option maxRecDepth 100000
set_option maxHeartbeats 2000000
/-! a dict is no tuple and no list; range(a, b); enumerate; continue; errors of two fields -/
namespace PySem.SeqAt
open AutoSeq1 (wpAny_loadPart')
open MeetsSeq
theorem tuple_eq_declines_dict (l b : Addr) (items : Array Value) (es : Array DictEntry) (n n2 : Nat) (dd dd2 : Option Addr) (sl sl2 : Array (Option Value)) :
    Meets (Builtin.«tuple.__eq__» ⟨[.ref l, .ref b], []⟩) (fun _ R s => s.heap.get? l = some { cls := .type "tuple", dict := dd, data := .seq items n, slots := sl } ∧ s.heap.get? b = some { cls := .type "dict", dict := dd2, data := .dict es n2, slots := sl2 } ∧ R (.ok (.ret .notImplemented)) s) :=
  .of_wp fun prog w A R s h => by obtain ⟨hp, g, d, tk, os⟩ := s; obtain ⟨hl, hb, h⟩ := h; have f1 := F.sub_dict_tuple; wp_walk using wpAny_loadPart' hl, wpAny_loadPart' hb; exact ⟨_, rfl, h⟩
theorem list_eq_declines_dict (l b : Addr) (items : Array Value) (es : Array DictEntry) (n n2 : Nat) (dd dd2 : Option Addr) (sl sl2 : Array (Option Value)) :
    Meets (Builtin.«list.__eq__» ⟨[.ref l, .ref b], []⟩) (fun _ R s => s.heap.get? l = some { cls := .type "list", dict := dd, data := .seq items n, slots := sl } ∧ s.heap.get? b = some { cls := .type "dict", dict := dd2, data := .dict es n2, slots := sl2 } ∧ R (.ok (.ret .notImplemented)) s) :=
  .of_wp fun prog w A R s h => by obtain ⟨hp, g, d, tk, os⟩ := s; obtain ⟨hl, hb, h⟩ := h; have f1 := F.sub_dict_list; wp_walk using wpAny_loadPart' hl, wpAny_loadPart' hb; exact ⟨_, rfl, h⟩
end PySem.SeqAt
namespace Er
open PySem PySem.Spec PyProof.Rows L2 Sx
section
variable {prog : Program} {w : World} {A : Around} {E : Value → Shared → Prop} {s : Shared} {a b : Addr} {items : Array Value}
/-- dict.__eq__(d, what is no dict) -/
theorem dict_eq_no {Kt : Type} [DecidableEq Kt] {knd : KeyKind prog w Kt} {ka : List (Kt × Value)} {T : String} (da : s.heap.DictOf knd a ka) (hb : s.TypeIs (.ref b) T) (hs : isSubtype (.type T) (.type "dict") = pure false) {Q : Value → Shared → Prop} (h : Q .notImplemented s) :
    wpAny (model prog w) A (call (.builtin "dict.__eq__") [.ref a, .ref b]) Q E s := by
  refine wpAny_call_entry PySem.F.slot_dict_eq da.typeIs PySem.F.entry_dict_eq ?_ (PySem.F.args_dict_eq_2 _ _)
  show wpAny _ _ (Builtin.Dict.dictSlotArgs "__eq__" ⟨[.ref a, .ref b], []⟩ >>= _) _ _ s
  refine wpAny_bind ?_
  unfold Builtin.Dict.dictSlotArgs
  refine wpAny_bind (wpAny_notOrdered_dict da.typeIs ?_)
  show wpAny _ _ (pure (Value.ref a, Value.ref b)) _ _ s
  refine wpAny_pure ?_
  refine wpAny_bind (wpAny_isInstance (b := false) hb hs ?_)
  simp only [Bool.not_false, if_true]
  exact wpAny_bind (wpAny_rule (wpAny_pure ⟨_, rfl, h⟩))
end
section
variable {X : Cx}
/-- a dict and a tuple or list are never equal -/
def rEqDf (K : PySem.W.Frag) : R2 := fun x y H Q => ∃ a b kvs, x = .ref a ∧ y = .ref b ∧ H a = some (.dK kvs) ∧ ((∃ xs, SqT K H b xs) ∨ ∃ xs, SqL K H b xs) ∧ Q (.bl false) H
theorem op_eqDf (hu : X.A.units + 64 < cLine) : OpR X (compareOp .Eq) (rEqDf X.K) := by
  intro pins s σ H x y v u Q I rx ry h
  obtain ⟨a, b, kvs, rfl, rfl, ea, hb, q⟩ := h
  cases rx
  cases ry
  obtain ⟨_, ya, va, ra, da⟩ := (show ObjOk X.prog X.w H s.heap a (.dK kvs) from I.hok a _ ea)
  have hu' : X.A.units < cLine := by omega
  obtain ⟨oa, es, ep, ha, xa, dA, _⟩ := id da
  have hcls : oa.cls = .type "dict" := xa.1
  obtain ⟨ca, dda, dta, sla⟩ := oa
  simp only at hcls dA
  subst hcls dA
  show wpAny _ _ (richCompare .Eq _ _) _ _ _
  rcases hb with ⟨xs, hb⟩ | ⟨xs, hb⟩
  · obtain ⟨its, rv, p, _⟩ := I.tuple hb
    have p' : s.heap.IsTuple b its.toArray := p
    obtain ⟨⟨cls2, dd2, data2, sl2⟩, ho2, hc2, n2, hd2⟩ := id p'
    simp only at hc2 hd2
    subst hc2 hd2
    have hne : a ≠ b := fun e => by subst e; have := congrArg Obj.cls (Option.some.inj (ha.symm.trans ho2)); simp at this
    exact PySem.SeqAt.rc_eq_decline_or (k := false) da.typeIs ⟨_, ho2, rfl⟩ (by decide) F.sub_tuple_dict F.slot_dict_eq F.slot_tuple_eq_refl
      (fun _ hq => dict_eq_no da ⟨_, ho2, rfl⟩ F.sub_tuple_dict hq)
      (fun _ hq => PySem.call_meets F.slot_tuple_eq_refl ⟨_, ho2, rfl⟩ F.entry_tuple_eq (F.args_tuple_eq_2 _ _) (PySem.SeqAt.tuple_eq_declines_dict b a _ _ _ _ _ _ _ _) ⟨ho2, ha, hq⟩)
      (fun _ hq => wpAny_isSame_ref_other hne ha ho2 (by simp) hq) (.inr hu') ⟨.bl false, H, I, rfl, q⟩
  · obtain ⟨its, rv, p, _⟩ := I.list hb
    have p' := p.isList
    obtain ⟨⟨cls2, dd2, data2, sl2⟩, ho2, hc2, n2, hd2⟩ := id p'
    simp only at hc2 hd2
    subst hc2 hd2
    have hne : a ≠ b := fun e => by subst e; have := congrArg Obj.cls (Option.some.inj (ha.symm.trans ho2)); simp at this
    exact PySem.SeqAt.rc_eq_decline_or (k := false) da.typeIs ⟨_, ho2, rfl⟩ (by decide) F.sub_list_dict F.slot_dict_eq F.slot_list_eq_refl
      (fun _ hq => dict_eq_no da ⟨_, ho2, rfl⟩ F.sub_list_dict hq)
      (fun _ hq => PySem.call_meets F.slot_list_eq_refl ⟨_, ho2, rfl⟩ F.entry_list_eq (F.args_list_eq_2 _ _) (PySem.SeqAt.list_eq_declines_dict b a _ _ _ _ _ _ _ _) ⟨ho2, ha, hq⟩)
      (fun _ hq => wpAny_isSame_ref_other hne ha ho2 (by simp) hq) (.inr hu') ⟨.bl false, H, I, rfl, q⟩
def rEqW (K : PySem.W.Frag) : R2 := fun x y H Q => rEqAny K x y H Q ∨ rEqDf K x y H Q
theorem op_eqW (hu : X.A.units + 64 < cLine) : OpR X (compareOp .Eq) (rEqW X.K) := by
  intro pins s σ H x y v u Q I rx ry h
  rcases h with h | h
  · exact op_eqAny hu pins s σ H x y v u Q I rx ry h
  · exact op_eqDf hu pins s σ H x y v u Q I rx ry h
end
/-! range(a, b), enumerate, continue -/
section
variable {H H' H1 H2 : Hp} {p a b c l : Addr} {o u : HO} {K : PySem.W.Frag} {σ : L2.St} {Q : VK} {v w : V} {D : Ends} {t : TT} {ta tb te : TE}
def R2K (xs : List V) (H1 : Hp) (R : It → Hp → Prop) : Prop := ∃ i j : Int, xs = [.int i, .int j] ∧ (-(2 ^ 62) ≤ i ∧ i < 2 ^ 62 ∧ -(2 ^ 62) ≤ j ∧ j < 2 ^ 62) ∧ R (Itr i (j - i).toNat) H1
theorem x_iR2 {a : TA} {R : It → Hp → Prop} (k : a σ H fun xs H1 => R2K xs H1 R) : iRng2 a σ H R := k
theorem lc_rng2 {lo m : Int} {j : Nat} {vs : List Nat} (hm : m < 2 ^ 62) (hm0 : -(2 ^ 62) ≤ m) (hl : lo < 2 ^ 62) (hl0 : -(2 ^ 62) ≤ lo) (I : Nat → List V → Hp → Prop) (h0 : I 0 [] H1) (mono : ∀ i acc H H', Tx H H' → I i acc H → I i acc H') (nb : ∀ i acc H, I i acc H → NB (.lst acc) ∧ acc.length < sizeLine)
    (hw : ∀ x, wipe ((wipe σ vs).set j (some x)) vs = wipe σ vs)
    (turn : ∀ (i : Nat) acc H', lo + (i : Int) < m → Ex H1 H' → I i acc H' → ∀ kk : Option V → Hp → Prop, (∀ y H4, Ex H' H4 → I (i + 1) (acc ++ [y]) H4 → kk (some y) H4) → (∀ H4, Ex H' H4 → I (i + 1) acc H4 → kk none H4) →
      t ((wipe σ vs).set j (some (.int (lo + (i : Int))))) H' fun b H3 => if b = true then te ((wipe σ vs).set j (some (.int (lo + (i : Int))))) H3 (fun y H4 => kk (some y) H4) else kk none H3)
    (k : ∀ p ys H2, Ex H1 H2 → H1 p = none → H2 p = some (.lst ys) → I (m - lo).toNat ys H2 → Q (.ref p) H2) : R2K [.int lo, .int m] H1 fun J H2 => LcGo J (gName j) t te vs σ H2 Q := by
  refine ⟨lo, m, rfl, ⟨hl0, hl, hm0, hm⟩, lc_any I h0 mono nb (fun i H' hi _ => hi) (fun H' _ => Nat.le_refl _) (fun i acc x H' H'' hi e q y kk k1 k2 => ?_) k⟩
  obtain ⟨rfl, rfl⟩ := y
  exact ⟨hw _, turn i acc _ (by omega) e q kk k1 k2⟩
theorem for_rng2 {lo m : Int} {j : Nat} {tb : TS} (hm : m < 2 ^ 62) (hm0 : -(2 ^ 62) ≤ m) (hl : lo < 2 ^ 62) (hl0 : -(2 ^ 62) ≤ lo) (Pv : Nat → L2.St → Hp → Prop) (h0 : Pv 0 σ H1)
    (hs : ∀ (i : Nat) σ H, lo + (i : Int) < m → Pv i σ H → tb { D with nx := Pv (i + 1), ct := Pv (i + 1), bk := D.nx } (σ.set j (some (.int (lo + (i : Int))))) H) (hd : ∀ σ H, Pv (m - lo).toNat σ H → D.nx σ H) : R2K [.int lo, .int m] H1 fun J H2 => ForGo J (gName j) tb D σ H2 :=
  ⟨lo, m, rfl, ⟨hl0, hl, hm0, hm⟩, for_range Pv h0 (fun i σ H hi q => hs i σ H (by omega) q) hd⟩
def EnK (K : PySem.W.Frag) (vs : List V) (H1 : Hp) (R : It → Hp → Prop) : Prop := ∃ a xs, vs = [.ref a] ∧ SqL K H1 a xs ∧ R (Ite K a) H1
theorem x_iEn {a : TA} {R : It → Hp → Prop} (k : a σ H fun xs H1 => EnK K xs H1 R) : iEnum K a σ H R := k
theorem lc_en {xs : List V} {j1 j2 : Nat} {vs : List Nat} (hx : H1 a = some (.lst xs)) (nbx : NB (.lst xs)) (I : Nat → List V → Hp → Prop) (h0 : I 0 [] H1) (mono : ∀ i acc H H', Tx H H' → I i acc H → I i acc H') (nb : ∀ i acc H, I i acc H → NB (.lst acc) ∧ acc.length < sizeLine)
    (hw : ∀ x y, wipe (((wipe σ vs).set j1 (some x)).set j2 (some y)) vs = wipe σ vs)
    (turn : ∀ (i : Nat) y acc H', xs[i]? = some y → Ex H1 H' → I i acc H' → ∀ kk : Option V → Hp → Prop, (∀ y H4, Ex H' H4 → I (i + 1) (acc ++ [y]) H4 → kk (some y) H4) → (∀ H4, Ex H' H4 → I (i + 1) acc H4 → kk none H4) →
      t (((wipe σ vs).set j1 (some (.int (i : Nat)))).set j2 (some y)) H' fun b H3 => if b = true then te (((wipe σ vs).set j1 (some (.int (i : Nat)))).set j2 (some y)) H3 (fun y H4 => kk (some y) H4) else kk none H3)
    (k : ∀ p ys H2, Ex H1 H2 → H1 p = none → H2 p = some (.lst ys) → I xs.length ys H2 → Q (.ref p) H2) : EnK K [.ref a] H1 fun J H2 => LcGo J (gTup K 2 (gCons (gName j1) (gCons (gName j2) gNil))) t te vs σ H2 Q := by
  have hq : ∀ H', Ex H1 H' → SqL K H' a xs := fun H' e => SqL.of (e.kp _ _ hx nbx)
  refine ⟨a, xs, rfl, SqL.of hx, lc_any (n := xs.length) I h0 mono nb (fun i H' hi e => ⟨xs, xs[i], hq H' e, by simp [hi]⟩) (fun H' e => ⟨xs, hq H' e, Nat.le_refl _⟩) (fun i acc v H' H'' hi e q y kk k1 k2 => ?_) k⟩
  obtain ⟨T, y, rfl, hT, rfl, hy⟩ := y
  have e2 : Ex H' (upd H' T (.tup [.int (i : Nat), y])) := Ex.new hT
  refine ⟨T, _, rfl, SqT.of upd_same, rfl, _, _, rfl, _, _, rfl, rfl, hw _ _, ?_⟩
  exact turn i y acc _ (hy xs (hq _ e)) (e.trans e2) (mono _ _ _ _ e2.tx q) kk (fun y H4 f g => k1 y H4 (e2.trans f) g) (fun H4 f g => k2 H4 (e2.trans f) g)
theorem x_cont (k : D.ct σ H) : tCont D σ H := k
end
/-! errors of two fields -/
section
variable {K : PySem.W.Frag} {σ : L2.St} {H H1 H2 : Hp} {Q : VK} {E : XK} {C a p : Addr} {f g : Str} {v y z : V} {D : Ends} {te : TE}
def sp_init2 (C : Addr) (f g : Str) : Sp := fun vs H Q _ => ∃ (a : Addr) (y z : V), vs = [.ref a, y, z] ∧ H a = some (exo a C none) ∧
  ∀ dx, H dx = none → dx ≠ a → Q .non (upd (upd H dx (exd dx [(g, z), (f, y)])) a (exo a C (some dx)))
theorem x_ost {to : TE} (k : te σ H fun y H1 => to σ H1 fun x H2 => ∃ a C : Addr, x = .ref a ∧ OexC K C ∧ PySem.W.findIn K (.ref C) f = some none ∧
  ((H2 a = some (exo a C none) ∧ ∀ dx, H2 dx = none → dx ≠ a → D.nx σ (upd (upd H2 dx (exd dx [(f, y)])) a (exo a C (some dx)))) ∨
    ∃ (dx : Addr) (fs : List (Str × V)), H2 a = some (exo a C (some dx)) ∧ H2 dx = some (exd dx fs) ∧ fs.length ≤ 900 ∧ D.nx σ (upd H2 dx (exd dx ((f, y) :: fs))))) : tOst K f to te D σ H := k
theorem x_init2 (T : XC K C) (hf : PySem.W.findIn K (.ref C) f = some none) (hg : PySem.W.findIn K (.ref C) g = some none) (ha : H a = some (exo a C none))
    (h0 : σ[0]? = some (some (.ref a))) (h1 : σ[1]? = some (some y)) (h2 : σ[2]? = some (some z)) (k : ∀ dx, H dx = none → dx ≠ a → D.nx σ (upd (upd H dx (exd dx [(g, z), (f, y)])) a (exo a C (some dx)))) :
    tSeq (tOst K f (tVar 0) (tVar 1)) (tOst K g (tVar 0) (tVar 2)) D σ H := by
  refine ⟨y, h1, .ref a, h0, a, C, rfl, T.oex, hf, .inl ⟨ha, fun dx hdx ne => ?_⟩⟩
  refine ⟨z, h2, .ref a, h0, a, C, rfl, T.oex, hg, .inr ⟨dx, [(f, y)], upd_same, by rw [upd_ne ne]; exact upd_same, Nat.le_of_ble_eq_true rfl, ?_⟩⟩
  have e : upd (upd (upd H dx (exd dx [(f, y)])) a (exo a C (some dx))) dx (exd dx [(g, z), (f, y)]) = upd (upd H dx (exd dx [(g, z), (f, y)])) a (exo a C (some dx)) := by
    funext b
    by_cases h1 : b = dx
    · rw [h1, upd_same, upd_ne ne, upd_same]
    · rw [upd_ne h1]
      by_cases h2 : b = a
      · rw [h2, upd_same, upd_same]
      · rw [upd_ne h2, upd_ne h2, upd_ne h1, upd_ne h1]
  show D.nx σ (upd (upd (upd H dx (exd dx [(f, y)])) a (exo a C (some dx))) dx (exd dx [(g, z), (f, y)]))
  rw [e]
  exact k dx hdx ne
theorem x_mk2 {Q : XK} (k : ∀ d H2, Ex H H2 → H d = none → H2 d = some (.xd [(g, z), (f, y)]) → Q (.ref C) (some d) H2) : MkK C (sp_init2 C f g) [y, z] H Q := by
  refine ⟨by show 2 ≤ 1000; decide, ?_⟩
  intro a ha
  refine ⟨a, y, z, rfl, upd_same, ?_⟩
  intro dx hx ne
  have hn : H dx = none := by rw [upd_ne ne] at hx; exact hx
  refine ⟨rfl, dx, [(g, z), (f, y)], upd_same, by rw [upd_ne ne]; exact upd_same, hn, ?_⟩
  have same : upd (del (upd (upd (upd H a (exo a C none)) dx (exd dx [(g, z), (f, y)])) a (exo a C (some dx))) a) dx (.xd [(g, z), (f, y)]) = upd H dx (.xd [(g, z), (f, y)]) := by
    funext b
    by_cases h1 : b = dx
    · rw [h1, upd_same, upd_same]
    · rw [upd_ne h1, upd_ne h1]
      by_cases h2 : b = a
      · rw [h2, del_same, ha]
      · rw [del_ne h2, upd_ne h2, upd_ne h1, upd_ne h2]
  rw [same]
  exact k dx _ (Ex.new hn) hn upd_same
/-- e.f, of some fields -/
theorem x_xgs {dd : Addr} {fs : List (Str × V)} {i : Nat} (hx : σ[i]? = some (some (.ref a))) (T : XC K C) (hno : PySem.W.findIn K (.ref C) f = some none) (hd : H dd = some (.xd fs)) (hl : fs.lookup f = some y) (k : Q y H) : tXg K a (.ref C) (some dd) f (tVar i) σ H Q :=
  ⟨.ref a, hx, rfl, C, dd, fs, y, rfl, T, hno, rfl, hd, hl, k⟩
end
/-! is True, is False, of truths -/
def rIsB : R2 := fun x y H Q => ∃ a b, x = .bl a ∧ y = .bl b ∧ Q (.bl (decide (a = b))) H
def rIsNB : R2 := fun x y H Q => ∃ a b, x = .bl a ∧ y = .bl b ∧ Q (.bl (!decide (a = b))) H
theorem op_isB {X : Cx} : OpR X (compareOp .Is) rIsB := by
  intro pins s σ H x y v u Q I rx ry h
  obtain ⟨a, b, rfl, rfl, q⟩ := h
  cases rx
  cases ry
  exact wpAny_is_plain rfl (fin_bl I q (by cases a <;> cases b <;> rfl))
theorem op_isNB {X : Cx} : OpR X (compareOp .IsNot) rIsNB := by
  intro pins s σ H x y v u Q I rx ry h
  obtain ⟨a, b, rfl, rfl, q⟩ := h
  cases rx
  cases ry
  exact wpAny_isNot_plain rfl (fin_bl I q (by cases a <;> cases b <;> rfl))
theorem x_isB {a b : Bool} {H : Hp} {Q : VK} (k : Q (.bl (decide (a = b))) H) : rIsB (.bl a) (.bl b) H Q := ⟨a, b, rfl, rfl, k⟩
theorem x_isNB {a b : Bool} {H : Hp} {Q : VK} (k : Q (.bl (!decide (a = b))) H) : rIsNB (.bl a) (.bl b) H Q := ⟨a, b, rfl, rfl, k⟩
theorem x_isBt {a b : Bool} {H : Hp} {Q : VK} (h : a = b) (k : Q (.bl true) H) : rIsB (.bl a) (.bl b) H Q := x_isB (by rw [h, decide_eq_true rfl]; exact k)
theorem x_isBf {a b : Bool} {H : Hp} {Q : VK} (h : a = !b) (k : Q (.bl false) H) : rIsB (.bl a) (.bl b) H Q := x_isB (by rw [h, show decide ((!b) = b) = false from by cases b <;> rfl]; exact k)
theorem x_isNBf {a b : Bool} {H : Hp} {Q : VK} (h : a = b) (k : Q (.bl false) H) : rIsNB (.bl a) (.bl b) H Q := x_isNB (by rw [h, decide_eq_true rfl]; exact k)
theorem x_isNBt {a b : Bool} {H : Hp} {Q : VK} (h : a = !b) (k : Q (.bl true) H) : rIsNB (.bl a) (.bl b) H Q := x_isNB (by rw [h, show decide ((!b) = b) = false from by cases b <;> rfl]; exact k)
theorem x_EqBt {a : Bool} {H : Hp} {Q : VK} (k : Q (.bl true) H) : rEq (.bl a) (.bl a) H Q := ⟨rfl, by simp; exact k⟩
theorem x_EqB {a b : Bool} {H : Hp} {Q : VK} (k : Q (.bl (decide (a = b))) H) : rEq (.bl a) (.bl b) H Q := ⟨rfl, by
  rw [show decide ((V.bl a) = .bl b) = decide (a = b) from decide_eq_decide.mpr ⟨fun h => V.bl.inj h, fun h => by rw [h]⟩]; exact k⟩
/-! fresh: no object that stays was there -/
section
variable {H H1 H2 : Hp} {l p : Addr} {o : HO}
def NF (H : Hp) (p : Addr) : Prop := ∀ o, NB o → H p ≠ some o
theorem NF.of (h : H p = none) : NF H p := fun o _ q => by rw [h] at q; cases q
theorem NF.back (e : Ex H H1) (h : NF H1 p) : NF H p := fun o n q => h o n (e.kp _ _ q n)
theorem NF.new (e : Ex H H1) (h : H1 p = none) : NF H p := .back e (.of h)
theorem mutN {xs : List V} (e : Ex H H1) (n : NF H l) (h : H1 l = some (.lst xs)) (nb : NB (.lst xs)) : Ex H (upd H1 l o) := by
  refine ⟨fun a o' q nn => ?_, fun b c q => ?_⟩
  · have hne : a ≠ l := fun ea => n o' nn (ea ▸ q)
    rw [upd_ne hne]
    exact e.kp a o' q nn
  · obtain ⟨x0, y0, z0, ns0, k1, k2, _⟩ := id q
    obtain ⟨x, y, z, ns, e1, e2, r⟩ := e.bg b c q
    have hb : b ≠ l := fun ea => by
      subst ea
      rw [h] at e1
      injection e1 with e1
      exact nb x y z c e1
    have hc : c ≠ l := fun ea => n _ NB.ints (ea ▸ k2)
    exact ⟨x, y, z, ns, by rw [upd_ne hb]; exact e1, by rw [upd_ne hc]; exact e2, r⟩
end
end Er

set_option Elab.async false
set_option linter.all false
set_option maxRecDepth 100000
set_option maxHeartbeats 2000000
/-! data without truths: what equals it and shows as it does is it -/
namespace Er
open PySem PySem.Spec PyProof.Rows L2 Sx
mutual
/-- no truth, no dict within -/
def noB : PyData → Bool
  | .bool _ => false
  | .dict _ => false
  | .list xs => noBs xs
  | .tuple xs => noBs xs
  | _ => true
def noBs : List PyData → Bool
  | [] => true
  | x :: xs => noB x && noBs xs
end
/-- how many e its text has -/
def es (d : PyData) : Int := cnt 101 d.shown.cps.toList
def ess : List PyData → Int
  | [] => 0
  | x :: xs => es x + ess xs
theorem ess_eq : ∀ xs : List PyData, ess xs = ((PyData.shownAll xs).map fun t => cnt 101 t.cps.toList).sum
  | [] => rfl
  | x :: xs => by
    rw [PyData.shownAll_cons, List.map_cons, List.sum_cons, ← ess_eq xs]
    rfl
theorem es_list (xs : List PyData) : es (.list xs) = ess xs := by
  unfold es
  rw [PyData.shown_list, cps_toList_append, cps_toList_append, cnt_append, cnt_append, cnt_join_sum, ess_eq]
  have h1 : cnt 101 (Str.ofString "[").cps.toList = 0 := by decide +kernel
  have h2 : cnt 101 (Str.ofString ", ").cps.toList = 0 := by decide +kernel
  have h3 : cnt 101 (Str.ofString "]").cps.toList = 0 := by decide +kernel
  rw [h1, h2, h3]
  simp
theorem es_tuple (xs : List PyData) : es (.tuple xs) = ess xs := by
  unfold es
  rw [PyData.shown_tuple, cps_toList_append, cps_toList_append, cnt_append, cnt_append, cnt_join_sum, ess_eq]
  have h1 : cnt 101 (Str.ofString "(").cps.toList = 0 := by decide +kernel
  have h2 : cnt 101 (Str.ofString ", ").cps.toList = 0 := by decide +kernel
  have h3 : cnt 101 (Str.ofString (if (xs.length == 1) = true then ",)" else ")")).cps.toList = 0 := by split <;> decide +kernel
  rw [h1, h2, h3]
  simp
theorem es_int (i : Int) : es (.int i) = 0 := by
  unfold es
  exact cnt_none _ _ (shown_int_free' ⟨by decide, by decide⟩ i)
theorem es_bool (b : Bool) : es (.bool b) = 1 := by
  unfold es
  rw [PyData.shown_bool]
  cases b
  · show cnt 101 (Str.ofString "False").cps.toList = 1; decide +kernel
  · show cnt 101 (Str.ofString "True").cps.toList = 1; decide +kernel
mutual
theorem sim : ∀ (e d : PyData), noB e = true → PyData.eqv d e = true → d = e ∨ es e < es d
  | .none, d, _, h => by cases d <;> simp [PyData.eqv] at h ⊢
  | .bool _, _, z, _ => by simp [noB] at z
  | .dict _, _, z, _ => by simp [noB] at z
  | .str x, d, _, h => by cases d <;> simp [PyData.eqv] at h ⊢; exact .inl h
  | .int i, d, _, h => by
    cases d with
    | int j => left; simp [PyData.eqv] at h; rw [h]
    | bool b => right; rw [es_int, es_bool]; decide
    | _ => simp [PyData.eqv] at h
  | .list ys, d, z, h => by
    cases d with
    | list xs =>
      rw [es_list, es_list]
      rcases sims ys xs (by simpa [noB] using z) (by simpa [PyData.eqv] using h) with q | q
      · left; rw [q]
      · exact .inr q
    | _ => simp [PyData.eqv] at h
  | .tuple ys, d, z, h => by
    cases d with
    | tuple xs =>
      rw [es_tuple, es_tuple]
      rcases sims ys xs (by simpa [noB] using z) (by simpa [PyData.eqv] using h) with q | q
      · left; rw [q]
      · exact .inr q
    | _ => simp [PyData.eqv] at h
theorem sims : ∀ (ys xs : List PyData), noBs ys = true → PyData.eqvAll xs ys = true → xs = ys ∨ ess ys < ess xs
  | [], xs, _, h => by cases xs <;> simp [PyData.eqvAll] at h ⊢
  | y :: ys, xs, z, h => by
    cases xs with
    | nil => simp [PyData.eqvAll] at h
    | cons x xs =>
      simp only [noBs, Bool.and_eq_true] at z
      simp only [PyData.eqvAll, Bool.and_eq_true] at h
      show _ ∨ es y + ess ys < es x + ess xs
      rcases sim y x z.1 h.1 with q | q <;> rcases sims ys xs z.2 h.2 with r | r
      · left; rw [q, r]
      · right; rw [q]; omega
      · right; rw [r]; omega
      · right; omega
end
/-- equal to e and shown as e is: e itself -/
theorem is_it {d e : PyData} (h : noB e = true) (q : PyData.eqv d e = true) (s : d.shown = e.shown) : d = e := by
  rcases sim e d h q with z | z
  · exact z
  · unfold es at z
    rw [s] at z
    omega
/-- v and u are alike: r tells -/
structure AlB (K : PySem.W.Frag) (H : Hp) (v u : V) (r : Bool) : Prop where
  ex : ∃ c : Bool, (∀ H1 Q, Ex H H1 → Q (.bl c) H1 → rEqW K v u H1 Q) ∧ (c = false → r = false) ∧
    (c = true → ∃ z1 z2, (∀ H1 Q, Ex H H1 → Q (.str z1) H1 → rReprY K [v] H1 Q) ∧ (∀ H1 Q, Ex H H1 → Q (.str z2) H1 → rReprY K [u] H1 Q) ∧ r = decide (z1 = z2))
section
variable {K : PySem.W.Frag} {H H1 : Hp} {v u : V} {a b : Addr}
theorem AlB.mono {r : Bool} (h : AlB K H v u r) (e : Ex H H1) : AlB K H1 v u r := by
  obtain ⟨c, h1, h2, h3⟩ := h.ex
  refine ⟨c, fun H2 Q f => h1 H2 Q (e.trans f), h2, fun z => ?_⟩
  obtain ⟨z1, z2, k1, k2, k3⟩ := h3 z
  exact ⟨z1, z2, fun H2 Q f => k1 H2 Q (e.trans f), fun H2 Q f => k2 H2 Q (e.trans f), k3⟩
theorem Alike.alB (h : Alike K H v u) : AlB K H v u true := by
  obtain ⟨a, z, b, c⟩ := h
  exact ⟨true, fun H1 Q f q => .inl (a H1 Q f q), (fun z => nomatch z), fun _ => ⟨z, z, b, c, by simp⟩⟩
theorem shaped_sml {b e : Nat} {d : PyData} (s : Sml b e d) (he : e ≤ 40) : SeqAt.shaped d = true := by
  unfold SeqAt.shaped
  rw [s.lay]
  have := s.deep
  simp
  omega
/-- data against data -/
theorem AlB.data {d e : PyData} {b1 e1 b2 e2 : Nat} (hd : DN H d v) (he : DN H e u) (sd : Sml b1 e1 d) (se : Sml b2 e2 e) (hb1 : b1 ≤ 100000) (he1 : e1 ≤ 40) (hb2 : b2 ≤ 100000) (he2 : e2 ≤ 40) (n : noB e = true) {r : Bool} (hr : r = true ↔ d = e) : AlB K H v u r := by
  refine ⟨PyData.eqv d e, fun H1 Q f q => ?_, fun z => ?_, fun z => ?_⟩
  · exact .inl (.inr (.inl ⟨d, e, DN.dp _ _ (DN.mono f _ _ hd), DN.dp _ _ (DN.mono f _ _ he), shaped_sml sd he1, shaped_sml se he2, q⟩))
  · cases r with
    | false => rfl
    | true =>
      have := hr.mp rfl
      subst this
      rw [SeqAt.eqv_refl d sd.lay] at z
      cases z
  · refine ⟨_, _, shows hd sd hb1 he1, shows he se hb2 he2, ?_⟩
    by_cases q : d = e
    · rw [hr.mpr q, q]; simp
    · have : ¬ d.shown = e.shown := fun s => q (is_it n z s)
      rw [decide_eq_false this]
      cases r with
      | false => rfl
      | true => exact absurd (hr.mp rfl) q
/-- a dict against a tuple or a list -/
theorem AlB.dict {kvs : List (Key × V)} (ha : H a = some (.dK kvs)) (hb : (∃ xs, H b = some (.tup xs)) ∨ ∃ xs, H b = some (.lst xs) ∧ NB (.lst xs)) : AlB K H (.ref a) (.ref b) false := by
  refine ⟨false, fun H1 Q f q => ?_, fun _ => rfl, (fun z => nomatch z)⟩
  refine .inr ⟨a, b, kvs, rfl, rfl, f.kp _ _ ha NB.dK, ?_, q⟩
  rcases hb with ⟨xs, h⟩ | ⟨xs, h, n⟩
  · exact .inl ⟨xs, SqT.of (f.kp _ _ h NB.tup)⟩
  · exact .inr ⟨xs, SqL.of (f.kp _ _ h n)⟩
end
section
variable {K : PySem.W.Frag} {H H1 : Hp} {v u : V} {p a b : Addr}
theorem dn_thing : ∀ {d : PyData} {v : V}, DN H d v → Thing K H v
  | .none, _, h => by rw [DN] at h; rw [h]; exact .non
  | .bool b, _, h => by rw [DN] at h; rw [h]; exact .bl b
  | .int i, _, h => by rw [DN] at h; rw [h]; exact .int i
  | .str z, _, h => by rw [DN] at h; rw [h]; exact .str z
  | .list ds, _, h => by
    rw [DN] at h
    obtain ⟨a, xs, rfl, ha, nb, _⟩ := h
    exact .lst ha nb
  | .tuple ds, _, h => by
    rw [DN] at h
    obtain ⟨a, xs, rfl, ha, _⟩ := h
    exact .tup ha
  | .dict _, _, h => by rw [DN] at h; exact h.elim
/-- a tuple as data -/
theorem dn_tup {d : PyData} {xs : List V} (h : DN H d (.ref p)) (hp : H p = some (.tup xs)) : ∃ ds, d = .tuple ds ∧ DNs H ds xs := by
  cases d with
  | tuple ds =>
    rw [DN] at h
    obtain ⟨a, ys, e, ha, hd⟩ := h
    cases e
    rw [hp] at ha
    cases ha
    exact ⟨ds, rfl, hd⟩
  | list ds =>
    rw [DN] at h
    obtain ⟨a, ys, e, ha, _⟩ := h
    cases e
    rw [hp] at ha
    cases ha
  | dict _ => rw [DN] at h; exact h.elim
  | _ => rw [DN] at h; cases h
theorem dn_lst {d : PyData} {xs : List V} (h : DN H d (.ref p)) (hp : H p = some (.lst xs)) : ∃ ds, d = .list ds ∧ NB (.lst xs) ∧ DNs H ds xs := by
  cases d with
  | list ds =>
    rw [DN] at h
    obtain ⟨a, ys, e, ha, nb, hd⟩ := h
    cases e
    rw [hp] at ha
    cases ha
    exact ⟨ds, rfl, nb, hd⟩
  | tuple ds =>
    rw [DN] at h
    obtain ⟨a, ys, e, ha, _⟩ := h
    cases e
    rw [hp] at ha
    cases ha
  | dict _ => rw [DN] at h; exact h.elim
  | _ => rw [DN] at h; cases h
theorem dn_int {d : PyData} {i : Int} (h : DN H d (.int i)) : d = .int i := by
  cases d with
  | int j => rw [DN] at h; cases h; rfl
  | list ds => rw [DN] at h; obtain ⟨a, xs, e, _⟩ := h; cases e
  | tuple ds => rw [DN] at h; obtain ⟨a, xs, e, _⟩ := h; cases e
  | dict _ => rw [DN] at h; exact h.elim
  | _ => rw [DN] at h; cases h
theorem _root_.Sx.Thing.lstOr (t : Thing K H v) : (∃ p xs, v = .ref p ∧ H p = some (.lst xs) ∧ NB (.lst xs)) ∨ (∃ bI bB bT bS bD, Kinds K H v bI bB bT false bS bD) ∧ ∀ p xs, v = .ref p → H p ≠ some (.lst xs) := by
  cases t with
  | int i => exact .inr ⟨⟨_, _, _, _, _, Kinds.int⟩, fun p xs e => by cases e⟩
  | bl b => exact .inr ⟨⟨_, _, _, _, _, Kinds.bl⟩, fun p xs e => by cases e⟩
  | non => exact .inr ⟨⟨_, _, _, _, _, Kinds.non⟩, fun p xs e => by cases e⟩
  | str z => exact .inr ⟨⟨_, _, _, _, _, Kinds.str⟩, fun p xs e => by cases e⟩
  | lst h n => exact .inl ⟨_, _, rfl, h, n⟩
  | tup h => exact .inr ⟨⟨_, _, _, _, _, Kinds.tup h⟩, fun p xs e q => by cases e; rw [h] at q; cases q⟩
  | dK h => exact .inr ⟨⟨_, _, _, _, _, Kinds.dK h⟩, fun p xs e q => by cases e; rw [h] at q; cases q⟩
  | ins h c => exact .inr ⟨⟨_, _, _, _, _, Kinds.ins h c⟩, fun p xs e q => by cases e; rw [h] at q; cases q⟩
end
/-! small data put together -/
theorem all_app : ∀ xs ys : List PyData, PyData.showableAll (xs ++ ys) = (PyData.showableAll xs && PyData.showableAll ys) ∧ PyData.hasDictAll (xs ++ ys) = (PyData.hasDictAll xs || PyData.hasDictAll ys) ∧ PyData.leavesShortAll 60 (xs ++ ys) = (PyData.leavesShortAll 60 xs && PyData.leavesShortAll 60 ys) ∧
    PyData.canLayAll0 (xs ++ ys) = (PyData.canLayAll0 xs && PyData.canLayAll0 ys) ∧ PyData.bulkAll (xs ++ ys) = PyData.bulkAll xs + PyData.bulkAll ys ∧ PyData.depthAll (xs ++ ys) = max (PyData.depthAll xs) (PyData.depthAll ys)
  | [], ys => by simp [PyData.showableAll, PyData.hasDictAll, PyData.leavesShortAll, PyData.canLayAll0, PyData.bulkAll, PyData.depthAll]
  | x :: xs, ys => by
    obtain ⟨h1, h2, h3, h4, h5, h6⟩ := all_app xs ys
    refine ⟨?_, ?_, ?_, ?_, ?_, ?_⟩
    · simp [PyData.showableAll, h1, Bool.and_assoc]
    · simp [PyData.hasDictAll, h2, Bool.or_assoc]
    · simp [PyData.leavesShortAll, h3, Bool.and_assoc]
    · simp [PyData.canLayAll0, h4, Bool.and_assoc]
    · simp only [List.cons_append, PyData.bulkAll, h5]; omega
    · simp only [List.cons_append, PyData.depthAll, h6]; omega
theorem sml_cat {b1 b2 e : Nat} {xs ys : List PyData} (s1 : Sml b1 e (.list xs)) (s2 : Sml b2 e (.list ys)) : Sml (b1 + b2) e (.list (xs ++ ys)) := by
  obtain ⟨h1, h2, h3, h4, h5, h6⟩ := all_app xs ys
  obtain ⟨a1, a2, a3, a4, a5, a6⟩ := s1
  obtain ⟨c1, c2, c3, c4, c5, c6⟩ := s2
  simp only [PyData.showable, PyData.hasDict, PyData.leavesShort, PyData.canLay0, PyData.bulk, PyData.depth] at *
  refine ⟨?_, ?_, ?_, ?_, ?_, ?_⟩
  · simp [PyData.showable, h1, a1, c1]
  · simp [PyData.hasDict, h2, a2, c2]
  · simp [PyData.leavesShort, h3, a3, c3]
  · simp [PyData.canLay0, h4, a4, c4]
  · simp only [PyData.bulk, h5]; omega
  · simp only [PyData.depth, h6]; omega
theorem dns_app {H : Hp} : ∀ {ds es : List PyData} {xs ys : List V}, DNs H ds xs → DNs H es ys → DNs H (ds ++ es) (xs ++ ys)
  | [], _, _, _, h, k => by rw [DNs] at h; subst h; exact k
  | d :: ds, _, _, _, h, k => by
    rw [DNs] at h
    obtain ⟨x, r, rfl, h1, h2⟩ := h
    exact dnCons h1 (dns_app h2 k)
/-! a list put together that nothing changes any more -/
def rCatF : R2 := fun x y H Q => ∃ l b xs zs, x = .ref l ∧ y = .ref b ∧ H l = some (.lst xs) ∧ H b = some (.lst zs) ∧ xs.length + zs.length ≤ sizeLine ∧ ∀ p o, H p = none → Q (.ref p) (upd H p (.frz o (.lst (xs ++ zs))))
theorem op_catF {X : Cx} : OpR X (binaryOp .Add) rCatF := by
  intro pins s σ H x y v u Q I rx ry h
  obtain ⟨l, b, xs, zs, rfl, rfl, hH, hB, hz, q⟩ := h
  cases rx
  cases ry
  obtain ⟨z, its, n, r, hl, e⟩ := I.lstM hH
  obtain ⟨z2, its2, n2, r2, hl2, e2⟩ := I.lstM hB
  refine PySem.P.add_list e e2 ?_ (by rw [List.size_toArray, List.size_toArray]; omega)
  have ea : its.toArray ++ its2.toArray = (its ++ its2).toArray := by simp
  rw [ea]
  refine ⟨.ref _, _, I.laid (t' := s.toks) (o := .frz { cls := .type "list", data := .seq (its ++ its2).toArray } (.lst (xs ++ zs))) (fun b o e => Heap.get?_push_of_some _ e) (Nat.le_refl _) ?_, rfl, q _ _ (I.hok.fresh (Nat.le_refl _))⟩
  exact ⟨Heap.get?_push_size _ rfl, by rw [List.length_append]; omega, its ++ its2, _, r.append r2, Heap.get?_push_size _ rfl⟩
section
variable {K : PySem.W.Frag} {H H1 : Hp} {p a b : Addr} {Q : VK} {xs ys : List V}
theorem x_catF (h : H a = some (.lst xs)) (h' : H b = some (.lst ys)) (l : xs.length + ys.length ≤ sizeLine) (k : ∀ p o H1, Ex H H1 → H1 p = some (.frz o (.lst (xs ++ ys))) → Q (.ref p) H1) : rCatF (.ref a) (.ref b) H Q :=
  ⟨a, b, xs, ys, rfl, rfl, h, h', l, fun p o hp => k p o _ (Ex.new hp) upd_same⟩
theorem _root_.Sx.Kinds.frz {o : Obj} (e : H a = some (.frz o (.lst xs))) : Kinds K H (.ref a) false false false true false false := ⟨_, .base (.frz e), kit_ty (by decide +kernel), kit_ty (by decide +kernel), kit_ty (by decide +kernel), kit_ty (by decide +kernel), kit_ty (by decide +kernel), kit_ty (by decide +kernel)⟩
theorem sql_frz {o : Obj} (e : H a = some (.frz o (.lst xs))) : SqL K H a xs := .inl (.inr ⟨_, e⟩)
end
section
variable {K : PySem.W.Frag} {H H1 : Hp} {v u : V} {p a b : Addr} {Q : VK} {σ : L2.St} {te : TE} {t : TT}
theorem showsD {d : PyData} {b e : Nat} (h : ∀ H1, Ex H H1 → Dp K H1 v d) (s : Sml b e d) (hb : b ≤ 100000) (he : e ≤ 40) : ∀ H1 Q, Ex H H1 → Q (.str d.shown) H1 → rReprY K [v] H1 Q :=
  fun H1 Q f q => .inl (.inl ⟨v, d, rfl, h H1 f, s.shw hb he, q⟩)
/-- data against data -/
theorem AlB.dataD {d e : PyData} {b1 e1 b2 e2 : Nat} (hd : ∀ H1, Ex H H1 → Dp K H1 v d) (he : ∀ H1, Ex H H1 → Dp K H1 u e) (sd : Sml b1 e1 d) (se : Sml b2 e2 e) (hb1 : b1 ≤ 100000) (he1 : e1 ≤ 40) (hb2 : b2 ≤ 100000) (he2 : e2 ≤ 40) (n : noB e = true) {r : Bool} (hr : r = true ↔ d = e) : AlB K H v u r := by
  refine ⟨PyData.eqv d e, fun H1 Q f q => ?_, fun z => ?_, fun z => ?_⟩
  · exact .inl (.inr (.inl ⟨d, e, hd H1 f, he H1 f, shaped_sml sd he1, shaped_sml se he2, q⟩))
  · cases r with
    | false => rfl
    | true =>
      have := hr.mp rfl
      subst this
      rw [SeqAt.eqv_refl d sd.lay] at z
      cases z
  · refine ⟨_, _, showsD hd sd hb1 he1, showsD he se hb2 he2, ?_⟩
    by_cases q : d = e
    · rw [hr.mpr q, q]; simp
    · have : ¬ d.shown = e.shown := fun s => q (is_it n z s)
      rw [decide_eq_false this]
      cases r with
      | false => rfl
      | true => exact absurd (hr.mp rfl) q
theorem dn_all {d : PyData} (h : DN H d v) : ∀ H1, Ex H H1 → Dp K H1 v d := fun H1 e => DN.dp _ _ (DN.mono e _ _ h)
theorem dns_thing : ∀ {ds : List PyData} {ys : List V}, DNs H ds ys → ∀ y ∈ ys, Thing K H y
  | [], ys, h => by rw [DNs] at h; subst h; exact fun _ m => nomatch m
  | d :: ds, ys, h => by
    rw [DNs] at h
    obtain ⟨y, r, rfl, h1, h2⟩ := h
    exact Er.All.cons (dn_thing h1) (dns_thing h2)
/-- a comprehension over a list that may be frozen -/
theorem lc_sql {xs : List V} {j : Nat} {vs : List Nat} (hq : ∀ H', Ex H1 H' → SqL K H' a xs) (I : Nat → List V → Hp → Prop) (h0 : I 0 [] H1) (mono : ∀ i acc H H', Tx H H' → I i acc H → I i acc H') (nb : ∀ i acc H, I i acc H → NB (.lst acc) ∧ acc.length < sizeLine)
    (hw : ∀ x, wipe ((wipe σ vs).set j (some x)) vs = wipe σ vs)
    (turn : ∀ (i : Nat) x acc H', xs[i]? = some x → Ex H1 H' → I i acc H' → ∀ kk : Option V → Hp → Prop, (∀ y H4, Ex H' H4 → I (i + 1) (acc ++ [y]) H4 → kk (some y) H4) → (∀ H4, Ex H' H4 → I (i + 1) acc H4 → kk none H4) →
      t ((wipe σ vs).set j (some x)) H' fun b H3 => if b = true then te ((wipe σ vs).set j (some x)) H3 (fun y H4 => kk (some y) H4) else kk none H3)
    (k : ∀ p ys H2, Ex H1 H2 → H1 p = none → H2 p = some (.lst ys) → I xs.length ys H2 → Q (.ref p) H2) : LK K (.ref a) H1 fun J H2 => LcGo J (gName j) t te vs σ H2 Q := by
  refine ⟨a, rfl, ⟨xs, hq _ (Ex.refl _)⟩, lc_any (n := xs.length) I h0 mono nb (fun i H' hi e => ⟨xs, xs[i], hq H' e, by simp [hi]⟩) (fun H' e => ⟨xs, hq H' e, Nat.le_refl _⟩) (fun i acc x H' H'' hi e q y kk k1 k2 => ?_) k⟩
  obtain ⟨rfl, y⟩ := y
  exact ⟨hw _, turn i x acc _ (y xs (hq _ e)) e q kk k1 k2⟩
end
end Er

set_option Elab.async false
set_option linter.all false
set_option maxRecDepth 100000
set_option maxHeartbeats 2000000
/-! dicts keyed by tuples; places seen -/
namespace Er
open PySem PySem.Spec PyProof.Rows L2 Sx
theorem hu1 {n c : Nat} (h : n + 64 < c) : n + 1 < c := by omega
theorem _root_.Sx.NB.dT {kvs : List (List Key × V)} : NB (.dT kvs) := fun _ _ _ _ h => nomatch h
section
variable {H H1 H2 : Hp} {a b : Addr} {K : PySem.W.Frag} {σ : L2.St} {Q : VK} {D : Ends} {td ty tv : TE} {kvs : List (List Key × V)} {k : List Key} {y v : V}
def DNI (y x : V) (H2 : Hp) (Q : VK) : Prop := ∃ a o, x = .ref a ∧ DGet H2 a y o ∧ Q (.bl (!o.isSome)) H2
theorem x_dNotIn (k : ty σ H fun y H1 => td σ H1 fun x H2 => DNI y x H2 Q) : tDNotIn ty td σ H Q := k
theorem x_dni (h : H a = some (.dT kvs)) (hb : H b = some (.tup (k.map kV))) (kk : Q (.bl (!(valV kvs k).isSome)) H) : DNI (.ref b) (.ref a) H Q := ⟨a, _, rfl, DGet.t h hb, kk⟩
def DPK (v x y : V) (H3 : Hp) (R : Hp → Prop) : Prop := ∃ a H4, x = .ref a ∧ DPut H3 a y v H4 ∧ R H4
theorem x_dPut (k : tv σ H fun v H1 => td σ H1 fun x H2 => ty σ H2 fun y H3 => DPK v x y H3 (D.nx σ)) : sDPut td ty tv D σ H := k
theorem x_dpk {R : Hp → Prop} (h : H a = some (.dT kvs)) (hb : H b = some (.tup (k.map kV))) (hl : kvs.length < sizeLine) (kk : R (upd H a (.dT (putK kvs k v)))) : DPK v (.ref a) (.ref b) H R := ⟨a, _, rfl, DPut.t h hb hl, kk⟩
theorem x_dnewT (k : JustNew (.dT []) H Q) : tDNewT σ H Q := k
end
/-! places by their numbers -/
def pk (F : Int) (n : Nat) : List Key := [.inl ((n : Int) / F), .inl ((n : Int) % F)]
theorem pk_inj {F : Int} {n m : Nat} (h : pk F n = pk F m) : n = m := by
  unfold pk at h
  injection h with h1 h2
  injection h1 with h1
  injection h2 with h2 _
  injection h2 with h2
  have a := Int.mul_ediv_add_emod (n : Int) F
  have b := Int.mul_ediv_add_emod (m : Int) F
  rw [h1, h2, b] at a
  omega
def seenK (F : Int) (ks : List Nat) : List (List Key × V) := ks.map fun n => (pk F n, V.bl true)
theorem seen_val {F : Int} {ks : List Nat} {n : Nat} : (valV (seenK F ks) (pk F n)).isSome = decide (n ∈ ks) := by
  induction ks with
  | nil => rfl
  | cons k ks ih =>
    by_cases e : k = n
    · subst e
      rw [show seenK F (k :: ks) = (pk F k, V.bl true) :: seenK F ks from rfl, valV_pos rfl]
      simp
    · rw [show seenK F (k :: ks) = (pk F k, V.bl true) :: seenK F ks from rfl, valV_neg (fun h => e (pk_inj h)), ih]
      have : n ≠ k := fun h => e h.symm
      simp [this]
theorem seen_put {F : Int} {ks : List Nat} {n : Nat} : putK (seenK F ks) (pk F n) (.bl true) = seenK F (if n ∈ ks then ks else ks ++ [n]) := by
  have any : ((seenK F ks).any fun kv => decide (kv.1 = pk F n)) = decide (n ∈ ks) := by
    unfold seenK
    rw [List.any_map, Bool.eq_iff_iff, List.any_eq_true, decide_eq_true_eq]
    constructor
    · rintro ⟨m, h1, h2⟩
      have : m = n := pk_inj (of_decide_eq_true h2)
      exact this ▸ h1
    · intro h
      exact ⟨n, h, by simp⟩
  unfold putK
  rw [any]
  by_cases h : n ∈ ks
  · rw [if_pos (decide_eq_true h), if_pos h]
    unfold seenK
    rw [List.map_map]
    apply List.map_congr_left
    intro m hm
    simp only [Function.comp]
    split <;> rfl
  · rw [if_neg (by simp [h]), if_neg h]
    unfold seenK
    rw [List.map_append]
    rfl
theorem nodup_le : ∀ (N : Nat) (l : List Nat), l.Nodup → (∀ x ∈ l, x < N) → l.length ≤ N
  | 0, l, _, h => by
    cases l with
    | nil => exact Nat.le_refl _
    | cons x r => exact absurd (h x (by simp)) (by omega)
  | N + 1, l, nd, h => by
    by_cases m : N ∈ l
    · have := nodup_le N (l.erase N) (nd.erase N) fun x hx => by
        have h1 := (nd.mem_erase_iff).mp hx
        have := h x h1.2
        have := h1.1
        omega
      rw [List.length_erase_of_mem m] at this
      omega
    · have := nodup_le N l nd fun x hx => by
        have := h x hx
        have : x ≠ N := fun e => m (e ▸ hx)
        omega
      omega
theorem mutO {H H1 : Hp} {l : Addr} {o o' : HO} (e : Ex H H1) (n : NF H l) (h : H1 l = some o') (nb : NB o') : Ex H (upd H1 l o) := by
  refine ⟨fun a o2 q nn => ?_, fun b c q => ?_⟩
  · have hne : a ≠ l := fun ea => n o2 nn (ea ▸ q)
    rw [upd_ne hne]
    exact e.kp a o2 q nn
  · obtain ⟨x0, y0, z0, ns0, k1, k2, _⟩ := id q
    obtain ⟨x, y, z, ns, e1, e2, r⟩ := e.bg b c q
    have hb : b ≠ l := fun ea => by
      subst ea
      rw [h] at e1
      injection e1 with e1
      exact nb x y z c e1
    have hc : c ≠ l := fun ea => n _ NB.ints (ea ▸ k2)
    exact ⟨x, y, z, ns, by rw [upd_ne hb]; exact e1, by rw [upd_ne hc]; exact e2, r⟩
end Er

/-! rests of powers, and inverses -/
namespace Nt
theorem emod_mul_left (a b m : Int) : (a % m * b) % m = (a * b) % m := by
  rw [Int.mul_emod (a % m), Int.emod_emod, ← Int.mul_emod]
theorem emod_mul_right (a b m : Int) : (a * (b % m)) % m = (a * b) % m := by
  rw [Int.mul_emod a (b % m), Int.emod_emod, ← Int.mul_emod]
theorem pow_rest (x m : Int) : ∀ k : Nat, (x % m) ^ k % m = x ^ k % m
  | 0 => by simp
  | k + 1 => by
    rw [Int.pow_succ, Int.pow_succ, emod_mul_right, Int.mul_emod, pow_rest x m k, ← Int.mul_emod]
theorem pow_dbl (x : Int) : ∀ k : Nat, x ^ (2 * k) = (x * x) ^ k
  | 0 => by simp
  | k + 1 => by
    rw [show 2 * (k + 1) = 2 * k + 1 + 1 by omega, Int.pow_succ, Int.pow_succ, pow_dbl x k, Int.pow_succ, Int.mul_assoc]
/-- one turn of squaring and multiplying -/
theorem turn_odd (t f m : Int) (l : Nat) (h : l % 2 = 1) : ((t * f % m) * (f * f % m) ^ (l / 2)) % m = (t * f ^ l) % m := by
  have e : l = 2 * (l / 2) + 1 := by omega
  generalize l / 2 = k at *
  subst e
  rw [emod_mul_left, Int.mul_emod, pow_rest, ← Int.mul_emod, Int.pow_succ, pow_dbl, Int.mul_assoc, Int.mul_comm f]
theorem turn_even (t f m : Int) (l : Nat) (h : l % 2 = 0) : (t * (f * f % m) ^ (l / 2)) % m = (t * f ^ l) % m := by
  have e : l = 2 * (l / 2) := by omega
  generalize l / 2 = k at *
  subst e
  rw [Int.mul_emod, pow_rest, ← Int.mul_emod, pow_dbl]
/-- f is the factor of a power of b with the exponent e, by m -/
structure Fac (b e m f : Int) : Prop where
  lo : 0 ≤ f
  hi : f < m
  pos : 0 ≤ e → f = b % m
  neg : e < 0 → b * f % m = 1 % m
/-- v is what power(b, e, m) returns -/
def Pw (b e m v : Int) : Prop := ∃ f, Fac b e m f ∧ v = f ^ e.natAbs % m
theorem Pw.lo {b e m v : Int} (h : Pw b e m v) (hm : 0 < m) : 0 ≤ v := by
  obtain ⟨f, _, rfl⟩ := h
  exact Int.emod_nonneg _ (by omega)
theorem Pw.hi {b e m v : Int} (h : Pw b e m v) (hm : 0 < m) : v < m := by
  obtain ⟨f, _, rfl⟩ := h
  exact Int.emod_lt_of_pos _ hm
/-- the steps of Euclid -/
structure Eu (n m near far one other : Int) : Prop where
  h1 : 0 ≤ near
  h2 : 0 ≤ far
  c1 : ∃ c, n * one = near + m * c
  c2 : ∃ c, n * other = far + m * c
  bz : ∃ x y, near * x + far * y = 1
  o1 : one.natAbs ≤ m.natAbs
  o2 : other.natAbs ≤ m.natAbs
  wt : ∃ a b : Int, 0 ≤ a ∧ 0 ≤ b ∧ a * far + b * near = m ∧ ((one = a ∧ other = -b) ∨ (one = -a ∧ other = b))
theorem Eu.start {n m : Int} (hm : 0 < m) (bz : ∃ x y, n * x + m * y = 1) : Eu n m (n % m) m 1 0 := by
  refine ⟨Int.emod_nonneg _ (by omega), by omega, ⟨n / m, ?_⟩, ⟨-1, ?_⟩, ?_, by omega, by omega, 1, 0, by omega, by omega, by omega, .inl ⟨rfl, rfl⟩⟩
  · have := Int.emod_add_mul_ediv n m
    omega
  · omega
  · obtain ⟨x, y, h⟩ := bz
    refine ⟨x, y + n / m * x, ?_⟩
    have e := Int.emod_add_mul_ediv n m
    have k : n * x = (n % m) * x + m * (n / m * x) := by
      rw [← Int.mul_assoc, ← Int.add_mul, e]
    rw [Int.mul_add, ← h, k]
    omega
theorem Eu.step {n m near far one other : Int} (h : Eu n m near far one other) (hf : 0 < far) : Eu n m far (near - near / far * far) other (one - near / far * other) := by
  obtain ⟨h1, h2, ⟨c, hc⟩, ⟨c', hc'⟩, ⟨x, y, hb⟩, o1, o2, a, b, ha, hb', hw, hs⟩ := h
  have e := Int.emod_add_mul_ediv near far
  have r0 := Int.emod_nonneg near (show far ≠ 0 by omega)
  have ef : near / far * far = far * (near / far) := Int.mul_comm _ _
  have t0 : 0 ≤ near / far := Int.ediv_nonneg h1 h2
  generalize near / far = t at *
  refine ⟨h2, by omega, ⟨c', hc'⟩, ⟨c - t * c', ?_⟩, ⟨y + t * x, x, ?_⟩, o2, ?_, b, a + t * b, hb', ?_, ?_, ?_⟩
  · rw [Int.mul_sub, hc, show n * (t * other) = t * (n * other) by rw [← Int.mul_assoc, Int.mul_comm n t, Int.mul_assoc], hc', Int.mul_add, Int.mul_sub]
    rw [show t * (m * c') = m * (t * c') by rw [← Int.mul_assoc, Int.mul_comm t m, Int.mul_assoc]]
    omega
  · rw [Int.mul_add, Int.sub_mul, show far * (t * x) = t * far * x by rw [← Int.mul_assoc, Int.mul_comm far t]]
    omega
  · have tb : 0 ≤ t * b := Int.mul_nonneg t0 hb'
    have r1 : 0 ≤ near - t * far := by omega
    have w1 : b * (near - t * far) + (a + t * b) * far = m := by
      rw [Int.mul_sub, Int.add_mul, show b * (t * far) = t * b * far by rw [← Int.mul_assoc, Int.mul_comm b t]]
      omega
    have w2 : 0 ≤ b * (near - t * far) := Int.mul_nonneg hb' r1
    have w3 : a + t * b ≤ (a + t * b) * far := by
      have := Int.mul_le_mul_of_nonneg_left (show 1 ≤ far by omega) (show 0 ≤ a + t * b by omega)
      omega
    have w4 : (one - t * other).natAbs = (a + t * b).natAbs := by
      rcases hs with ⟨e1, e2⟩ | ⟨e1, e2⟩
      · rw [e1, e2, Int.mul_neg]
        congr 1
        omega
      · rw [e1, e2, show -a - t * b = -(a + t * b) by omega, Int.natAbs_neg]
    omega
  · have : 0 ≤ t * b := Int.mul_nonneg t0 hb'
    omega
  · rw [Int.mul_sub, Int.add_mul, show b * (t * far) = t * b * far by rw [← Int.mul_assoc, Int.mul_comm b t]]
    omega
  · rcases hs with ⟨rfl, rfl⟩ | ⟨rfl, rfl⟩
    · refine .inr ⟨rfl, ?_⟩
      rw [Int.mul_neg]
      omega
    · refine .inl ⟨rfl, ?_⟩
      omega
theorem Eu.fin {n m near one other : Int} (h : Eu n m near 0 one other) : n * (one % m) % m = 1 % m := by
  obtain ⟨h1, h2, ⟨c, hc⟩, _, ⟨x, y, hb⟩, _, _, _⟩ := h
  have hn : near = 1 := by
    have d : near ∣ 1 := ⟨x, by omega⟩
    have := Int.le_of_dvd (by decide) d
    have z : near ≠ 0 := by
      rintro rfl
      simp at hb
    omega
  rw [emod_mul_right, hc, hn, Int.add_mul_emod_self_left]
theorem Eu.lt {near far : Int} (hf : 0 < far) : near - near / far * far < far := by
  have e := Int.emod_add_mul_ediv near far
  have r := Int.emod_lt_of_pos near hf
  have ef : near / far * far = far * (near / far) := Int.mul_comm _ _
  omega
theorem small {t m : Int} {c : Nat} (h0 : 0 ≤ t) (h1 : t < m) (h : m.natAbs < c) : t.natAbs < c := by omega
end Nt

/-! every other row steps out, again and again -/
namespace Nt
def Md (rows : Int) : Int := rows - 1 + rows % 2
def oth (rows r : Int) : Int := r / 2 + (rows - rows / 2) * (r - 2 * (r / 2))
def fil1 (rows r late : Int) : Int := 2 * (r - (rows - rows / 2) * late) + late
def fil (rows r : Int) : Int := fil1 rows r (if rows - rows / 2 ≤ r then 1 else 0)
def iter (f : Int → Int) : Nat → Int → Int
  | 0, r => r
  | n + 1, r => f (iter f n r)
def led (rows r k : Int) : Int := if 0 < k then iter (oth rows) k.natAbs r else iter (fil rows) k.natAbs r
theorem oth_ok {rows r : Int} (h0 : 0 ≤ r) (h1 : r < rows) : 0 ≤ oth rows r ∧ oth rows r < rows ∧ (2 * oth rows r = r ∨ 2 * oth rows r = r + Md rows) := by
  unfold oth Md
  have : r - 2 * (r / 2) = 0 ∨ r - 2 * (r / 2) = 1 := by omega
  rcases this with e | e <;> rw [e] <;> omega
theorem fil_ok {rows r : Int} (h0 : 0 ≤ r) (h1 : r < rows) : 0 ≤ fil rows r ∧ fil rows r < rows ∧ (fil rows r = 2 * r ∨ fil rows r = 2 * r - Md rows) := by
  unfold fil fil1 Md
  split <;> omega
theorem Md_pos {rows : Int} (h : 0 < rows) : 0 < Md rows := by unfold Md; omega
theorem oth_last {rows : Int} (h1 : Md rows < rows) (h0 : 0 < rows) : oth rows (Md rows) = Md rows := by
  have := oth_ok (Int.le_of_lt (Md_pos h0)) h1
  unfold Md at *
  omega
theorem fil_last {rows : Int} (h1 : Md rows < rows) (h0 : 0 < rows) : fil rows (Md rows) = Md rows := by
  have := fil_ok (Int.le_of_lt (Md_pos h0)) h1
  unfold Md at *
  unfold fil fil1 at *
  split at this <;> split <;> omega
theorem iter_fix {f : Int → Int} {x : Int} (h : f x = x) : ∀ n, iter f n x = x
  | 0 => rfl
  | n + 1 => by
    show f (iter f n x) = x
    rw [iter_fix h n, h]
/-- what stepped tells -/
def Stp (rows row k r : Int) : Prop := (row = Md rows → r = row) ∧ (row ≠ Md rows → ∃ v, Pw 2 (-k) (Md rows) v ∧ r = row * v % Md rows)
theorem bez2 (rows : Int) : ∃ x y : Int, 2 * x + Md rows * y = 1 := ⟨-(Md rows / 2), 1, by unfold Md; omega⟩
/-- a map that times f by m -/
theorem iter_pow {g : Int → Int} {m f : Int} (hg : ∀ x, 0 ≤ x → x < m → g x = x * f % m) (hm : 0 < m) {r : Int} (h0 : 0 ≤ r) (h1 : r < m) : ∀ n, iter g n r = r * f ^ n % m
  | 0 => by show r = r * f ^ 0 % m; simp [Int.emod_eq_of_lt h0 h1]
  | n + 1 => by
    show g (iter g n r) = _
    rw [iter_pow hg hm h0 h1 n, hg _ (Int.emod_nonneg _ (by omega)) (Int.emod_lt_of_pos _ hm), emod_mul_left, Int.pow_succ, Int.mul_assoc]
theorem oth_mul {rows f : Int} (h : 2 * f % Md rows = 1 % Md rows) {x : Int} (h0 : 0 ≤ x) (h1 : x < Md rows) : oth rows x = x * f % Md rows := by
  have hr : Md rows ≤ rows := by unfold Md; omega
  have hm : 0 < Md rows := by omega
  obtain ⟨a0, a1, a2⟩ := oth_ok h0 (show x < rows by omega)
  have lt : oth rows x < Md rows := by omega
  have c : (2 * oth rows x) % Md rows = x % Md rows := by
    rcases a2 with e | e
    · rw [e]
    · rw [e, Int.add_emod_right]
  have d : oth rows x % Md rows = x * f % Md rows := by
    rw [Int.mul_emod x f, ← c, ← Int.mul_emod, show 2 * oth rows x * f = oth rows x * (2 * f) by rw [Int.mul_comm 2 (oth rows x), Int.mul_assoc], Int.mul_emod, h, ← Int.mul_emod, Int.mul_one]
  rw [← d, Int.emod_eq_of_lt a0 lt]
theorem fil_mul {rows : Int} {x : Int} (h0 : 0 ≤ x) (h1 : x < Md rows) : fil rows x = x * (2 % Md rows) % Md rows := by
  have hr : Md rows ≤ rows := by unfold Md; omega
  obtain ⟨a0, a1, a2⟩ := fil_ok h0 (show x < rows by omega)
  rw [emod_mul_right, Int.mul_comm]
  have : fil rows x < Md rows := by
    rcases a2 with e | e
    · by_cases q : fil rows x = Md rows
      · unfold Md at *; omega
      · unfold Md at *; omega
    · omega
  rcases a2 with e | e
  · rw [← e, Int.emod_eq_of_lt a0 this]
  · rw [show 2 * x = fil rows x + Md rows by omega, Int.add_emod_right, Int.emod_eq_of_lt a0 this]
theorem stp_led {rows row k r : Int} (h : 0 < rows) (h0 : 0 ≤ row) (h1 : row < rows) (s : Stp rows row k r) : r = led rows row k := by
  by_cases e : row = Md rows
  · rw [s.1 e]
    unfold led
    subst e
    split
    · rw [iter_fix (oth_last h1 h)]
    · rw [iter_fix (fil_last h1 h)]
  · obtain ⟨v, ⟨f, fc, rfl⟩, rfl⟩ := s.2 e
    have hm := Md_pos h
    have lt : row < Md rows := by unfold Md at *; omega
    unfold led
    split
    · rename_i hk
      rw [iter_pow (fun x a b => oth_mul (fc.neg (by omega)) a b) hm h0 lt, emod_mul_right, Int.natAbs_neg]
    · rename_i hk
      have ef := fc.pos (by omega)
      rw [iter_pow (fun x a b => fil_mul a b) hm h0 lt, emod_mul_right, Int.natAbs_neg, ef]
end Nt

/-! Fermat and Euler -/
namespace Nt
/-- a prime -/
def Pri (p : Nat) : Prop := 2 ≤ p ∧ ∀ d, d ∣ p → d = 1 ∨ d = p
theorem Pri.cop {p n : Nat} (h : Pri p) (hn : ¬ p ∣ n) : Nat.Coprime p n := by
  have g1 := Nat.gcd_dvd_left p n
  have g2 := Nat.gcd_dvd_right p n
  rcases h.2 _ g1 with e | e
  · exact e
  · rw [e] at g2
    exact absurd g2 hn
theorem Pri.mul {p a b : Nat} (h : Pri p) (hd : p ∣ a * b) : p ∣ a ∨ p ∣ b := by
  by_cases e : p ∣ a
  · exact .inl e
  · exact .inr ((h.cop e).dvd_of_dvd_mul_left hd)
theorem Pri.pow {p a : Nat} (h : Pri p) : ∀ {k}, p ∣ a ^ k → p ∣ a
  | 0, d => by
    rw [Nat.pow_zero] at d
    have := Nat.le_of_dvd (by decide) d
    have := h.1
    omega
  | k + 1, d => by
    rw [Nat.pow_succ] at d
    rcases h.mul d with e | e
    · exact h.pow e
    · exact e
/-- binomials -/
def C : Nat → Nat → Nat
  | _, 0 => 1
  | 0, _ + 1 => 0
  | n + 1, k + 1 => C n k + C n (k + 1)
theorem C_zero (n : Nat) : C n 0 = 1 := by cases n <;> rfl
theorem C_gt : ∀ n k, n < k → C n k = 0
  | 0, 0, h => absurd h (by decide)
  | 0, k + 1, _ => rfl
  | n + 1, 0, h => absurd h (by omega)
  | n + 1, k + 1, h => by
    show C n k + C n (k + 1) = 0
    rw [C_gt n k (by omega), C_gt n (k + 1) (by omega)]
theorem C_self : ∀ n, C n n = 1
  | 0 => rfl
  | n + 1 => by
    show C n n + C n (n + 1) = 1
    rw [C_self n, C_gt n (n + 1) (by omega)]
theorem C_mul : ∀ n k, (k + 1) * C (n + 1) (k + 1) = (n + 1) * C n k
  | 0, k => by
    show (k + 1) * (C 0 k + C 0 (k + 1)) = 1 * C 0 k
    cases k with
    | zero => rfl
    | succ k => simp [C]
  | n + 1, 0 => by
    have h := C_mul n 0
    show 1 * (C (n + 1) 0 + C (n + 1) 1) = (n + 2) * C (n + 1) 0
    simp only [C_zero, Nat.zero_add, Nat.one_mul, Nat.mul_one] at h ⊢
    omega
  | n + 1, k + 1 => by
    have h1 := C_mul n k
    have h2 := C_mul n (k + 1)
    show (k + 2) * (C (n + 1) (k + 1) + C (n + 1) (k + 2)) = (n + 2) * C (n + 1) (k + 1)
    have e : C (n + 1) (k + 1) = C n k + C n (k + 1) := rfl
    rw [Nat.mul_add, h2]
    rw [show (k + 2) * C (n + 1) (k + 1) = (k + 1) * C (n + 1) (k + 1) + C (n + 1) (k + 1) by rw [show k + 2 = (k + 1) + 1 by rfl, Nat.succ_mul]]
    rw [h1, show (n + 2) * C (n + 1) (k + 1) = (n + 1) * C (n + 1) (k + 1) + C (n + 1) (k + 1) by rw [show n + 2 = (n + 1) + 1 by rfl, Nat.succ_mul]]
    rw [e, Nat.mul_add]
    omega
theorem C_dvd {p k : Nat} (h : Pri p) (h0 : 0 < k) (h1 : k < p) : p ∣ C p k := by
  obtain ⟨k, rfl⟩ : ∃ j, k = j + 1 := ⟨k - 1, by omega⟩
  obtain ⟨n, rfl⟩ : ∃ n, p = n + 1 := ⟨p - 1, by omega⟩
  have e := C_mul n k
  have d : (n + 1) ∣ (k + 1) * C (n + 1) (k + 1) := ⟨_, e⟩
  rcases h.mul d with z | z
  · exact absurd (Nat.le_of_dvd (by omega) z) (by omega)
  · exact z
def Sm (n : Nat) (x : Int) : Nat → Int
  | 0 => 0
  | m + 1 => Sm n x m + (C n m : Int) * x ^ m
theorem Sm_succ (n : Nat) (x : Int) : ∀ m, Sm (n + 1) x (m + 1) = Sm n x (m + 1) + x * Sm n x m
  | 0 => by simp [Sm, C_zero]
  | m + 1 => by
    show Sm (n + 1) x (m + 1) + (C (n + 1) (m + 1) : Int) * x ^ (m + 1) = Sm n x (m + 1) + (C n (m + 1) : Int) * x ^ (m + 1) + x * (Sm n x m + (C n m : Int) * x ^ m)
    rw [Sm_succ n x m]
    have e : (C (n + 1) (m + 1) : Int) = C n m + C n (m + 1) := by show ((C n m + C n (m + 1) : Nat) : Int) = _; omega
    rw [e, Int.add_mul, Int.mul_add x, Int.pow_succ, show x * ((C n m : Int) * x ^ m) = (C n m : Int) * (x ^ m * x) by rw [← Int.mul_assoc, Int.mul_comm x, Int.mul_assoc, Int.mul_comm x]]
    omega
theorem binom (x : Int) : ∀ n, (x + 1) ^ n = Sm n x (n + 1)
  | 0 => by simp [Sm, C_zero]
  | n + 1 => by
    rw [Int.pow_succ, binom x n, Sm_succ]
    have e : Sm n x (n + 1 + 1) = Sm n x (n + 1) := by
      show Sm n x (n + 1) + (C n (n + 1) : Int) * x ^ (n + 1) = _
      rw [C_gt n (n + 1) (by omega)]
      simp
    rw [e, Int.mul_add, Int.mul_one, Int.mul_comm]
    omega
theorem Sm_rest {p : Nat} (h : Pri p) (x : Int) : ∀ m, m < p → ∃ q : Int, Sm p x (m + 1) = 1 + p * q
  | 0, _ => ⟨0, by simp [Sm, C_zero]⟩
  | m + 1, hm => by
    obtain ⟨q, hq⟩ := Sm_rest h x m (by omega)
    obtain ⟨r, hr⟩ := C_dvd h (show 0 < m + 1 by omega) hm
    refine ⟨q + r * x ^ (m + 1), ?_⟩
    show Sm p x (m + 1) + (C p (m + 1) : Int) * x ^ (m + 1) = _
    rw [hq, hr, Int.mul_add]
    push_cast
    rw [Int.mul_assoc]
    omega
theorem frob {p : Nat} (h : Pri p) (x : Int) : ∃ q : Int, (x + 1) ^ p = x ^ p + 1 + p * q := by
  have h2 := h.1
  obtain ⟨q, hq⟩ := Sm_rest h x (p - 1) (by omega)
  rw [show p - 1 + 1 = p by omega] at hq
  refine ⟨q, ?_⟩
  rw [binom]
  show Sm p x p + (C p p : Int) * x ^ p = _
  rw [C_self, hq]
  push_cast
  omega
theorem fermat_nat {p : Nat} (h : Pri p) : ∀ n : Nat, (p : Int) ∣ (n : Int) ^ p - n
  | 0 => by
    have := h.1
    rw [show (0 : Nat) = (0 : Nat) from rfl]
    simp [Int.zero_pow (show p ≠ 0 by omega)]
  | n + 1 => by
    obtain ⟨q, hq⟩ := frob h (n : Int)
    obtain ⟨r, hr⟩ := fermat_nat h n
    refine ⟨r + q, ?_⟩
    push_cast
    rw [hq, Int.mul_add, ← hr]
    omega
theorem pow_sub_dvd {m a b : Int} (h : m ∣ a - b) : ∀ n : Nat, m ∣ a ^ n - b ^ n
  | 0 => by simp
  | n + 1 => by
    obtain ⟨r, hr⟩ := pow_sub_dvd h n
    obtain ⟨s, hs⟩ := h
    refine ⟨r * a + b ^ n * s, ?_⟩
    rw [Int.pow_succ, Int.pow_succ, Int.mul_add, ← Int.mul_assoc, ← hr, show m * (b ^ n * s) = b ^ n * (m * s) by rw [← Int.mul_assoc, Int.mul_comm m, Int.mul_assoc], ← hs, Int.sub_mul, Int.mul_sub]
    omega
theorem fermat {p : Nat} (h : Pri p) (b : Int) : (p : Int) ∣ b ^ p - b := by
  have h2 := h.1
  have hp : (p : Int) ≠ 0 := by omega
  obtain ⟨n, hn⟩ : ∃ n : Nat, b % p = n := ⟨(b % p).toNat, by have := Int.emod_nonneg b hp; omega⟩
  have d0 : (p : Int) ∣ b - n := ⟨b / p, by have := Int.emod_add_mul_ediv b p; omega⟩
  have d1 := pow_sub_dvd d0 p
  have d2 := fermat_nat h n
  have e : b ^ p - b = (b ^ p - (n : Int) ^ p) + ((n : Int) ^ p - n) - (b - n) := by omega
  rw [e]
  exact Int.dvd_sub (Int.dvd_add d1 d2) d0
theorem ndvd {p : Nat} {n : Int} : (p : Int) ∣ n ↔ p ∣ n.natAbs := by rw [← Int.natAbs_dvd_natAbs, Int.natAbs_natCast]
theorem dvd_cancel {p : Nat} (h : Pri p) {a b : Int} (hd : (p : Int) ∣ a * b) (hn : ¬ (p : Int) ∣ a) : (p : Int) ∣ b := by
  have d : p ∣ a.natAbs * b.natAbs := by
    have := Int.natAbs_dvd_natAbs.mpr hd
    rwa [Int.natAbs_mul, Int.natAbs_natCast] at this
  rcases h.mul d with z | z
  · exact absurd (ndvd.mpr z) hn
  · exact ndvd.mpr z
theorem fermat1 {p : Nat} (h : Pri p) {b : Int} (hb : ¬ (p : Int) ∣ b) : (p : Int) ∣ b ^ (p - 1) - 1 := by
  have h2 := h.1
  refine dvd_cancel h (a := b) ?_ hb
  have := fermat h b
  obtain ⟨q, rfl⟩ : ∃ q, p = q + 1 := ⟨p - 1, by omega⟩
  rwa [show q + 1 - 1 = q by omega, show b * (b ^ q - 1) = b ^ (q + 1) - b by rw [Int.mul_sub, Int.mul_one, Int.pow_succ, Int.mul_comm]]
/-- the first two terms -/
theorem binom2 (y : Int) : ∀ n : Nat, ∃ z : Int, (1 + y) ^ n = 1 + n * y + y * y * z
  | 0 => ⟨0, by simp⟩
  | n + 1 => by
    obtain ⟨z, hz⟩ := binom2 y n
    refine ⟨n + z + y * z, ?_⟩
    rw [Int.pow_succ, hz]
    push_cast
    simp only [Int.mul_add, Int.add_mul, Int.mul_one, Int.one_mul]
    have e1 : y * y * z * y = y * y * (y * z) := by rw [Int.mul_assoc, Int.mul_comm z y]
    have e2 : (n : Int) * y * y = y * y * n := by rw [Int.mul_assoc, Int.mul_comm]
    omega
theorem lift {p k : Nat} (hk : 1 ≤ k) {x : Int} (h : ((p : Int) ^ k) ∣ x - 1) : ((p : Int) ^ (k + 1)) ∣ x ^ p - 1 := by
  obtain ⟨t, ht⟩ := h
  obtain ⟨z, hz⟩ := binom2 ((p : Int) ^ k * t) p
  have e : x = 1 + (p : Int) ^ k * t := by omega
  obtain ⟨j, rfl⟩ : ∃ j, k = j + 1 := ⟨k - 1, by omega⟩
  refine ⟨t + (p : Int) ^ j * t * t * z, ?_⟩
  rw [e, hz]
  have e1 : (p : Int) * ((p : Int) ^ (j + 1) * t) = (p : Int) ^ (j + 1 + 1) * t := by
    rw [Int.pow_succ _ (j + 1), ← Int.mul_assoc, Int.mul_comm (p : Int)]
  have e2 : (p : Int) ^ (j + 1) * t * ((p : Int) ^ (j + 1) * t) * z = (p : Int) ^ (j + 1 + 1) * ((p : Int) ^ j * t * t * z) := by
    simp only [Int.pow_succ]
    generalize (p : Int) ^ j = q
    simp only [Int.mul_assoc]
    congr 1
    simp only [← Int.mul_assoc]
    simp only [Int.mul_comm, Int.mul_left_comm]
  rw [e1, e2, Int.mul_add]
  omega
theorem euler_pp {p : Nat} (h : Pri p) {b : Int} (hb : ¬ (p : Int) ∣ b) : ∀ e : Nat, ((p : Int) ^ (e + 1)) ∣ b ^ (p ^ e * (p - 1)) - 1
  | 0 => by
    have := fermat1 h hb
    rwa [show (p : Int) ^ (0 + 1) = p by rw [Int.pow_succ, Int.pow_zero, Int.one_mul], Nat.pow_zero, Nat.one_mul]
  | e + 1 => by
    have := lift (by omega) (euler_pp h hb e)
    rwa [← Int.pow_mul, show p ^ e * (p - 1) * p = p ^ (e + 1) * (p - 1) by rw [Nat.pow_succ, Nat.mul_right_comm]] at this
theorem one_pow_dvd {m b : Int} {t : Nat} (h : m ∣ b ^ t - 1) (k : Nat) : m ∣ b ^ (t * k) - 1 := by
  have := pow_sub_dvd h k
  rwa [Int.one_pow, ← Int.pow_mul] at this
theorem cop_mul {a c : Nat} (h : Nat.Coprime a c) {n : Int} (h1 : (a : Int) ∣ n) (h2 : (c : Int) ∣ n) : ((a * c : Nat) : Int) ∣ n := by
  have d1 : a ∣ n.natAbs := ndvd.mp h1
  have d2 : c ∣ n.natAbs := ndvd.mp h2
  exact ndvd.mpr (h.mul_dvd_of_dvd_of_dvd d1 d2)
end Nt

/-! prime divisors, how many are coprime, orders -/
namespace Nt
theorem exists_pri : ∀ n : Nat, 2 ≤ n → ∃ p, Pri p ∧ p ∣ n := by
  intro n
  induction n using Nat.strongRecOn with
  | _ n ih =>
    intro h
    by_cases c : Pri n
    · exact ⟨n, c, Nat.dvd_refl n⟩
    · have : ∃ d, d ∣ n ∧ d ≠ 1 ∧ d ≠ n := by
        refine Classical.byContradiction fun q => c ⟨h, fun d hd => ?_⟩
        by_cases e1 : d = 1
        · exact .inl e1
        · by_cases e2 : d = n
          · exact .inr e2
          · exact absurd ⟨d, hd, e1, e2⟩ q
      obtain ⟨d, hd, h1, h2⟩ := this
      have le := Nat.le_of_dvd (by omega) hd
      have pos : 0 < d := Nat.pos_of_dvd_of_pos hd (by omega)
      obtain ⟨p, hp, hpd⟩ := ih d (by omega) (by omega)
      exact ⟨p, hp, Nat.dvd_trans hpd hd⟩
structure PL (n : Nat) (ps : List Nat) : Prop where
  pr : ∀ p ∈ ps, Pri p ∧ p ∣ n
  all : ∀ p, Pri p → p ∣ n → p ∈ ps
  asc : ps.Pairwise (· < ·)
def tot (n : Nat) (ps : List Nat) : Nat := ps.foldl (fun t p => t / p * (p - 1)) n
theorem split_pow {p : Nat} (hp : 2 ≤ p) : ∀ B : Nat, 0 < B → p ∣ B → ∃ e B', B = p ^ (e + 1) * B' ∧ ¬ p ∣ B' ∧ 0 < B' := by
  intro B
  induction B using Nat.strongRecOn with
  | _ B ih =>
    intro h0 hd
    obtain ⟨c, rfl⟩ := hd
    have c0 : 0 < c := Nat.pos_of_mul_pos_left h0 |> fun h => by
      rcases Nat.eq_zero_or_pos c with e | e
      · rw [e] at h0; simp at h0
      · exact e
    by_cases q : p ∣ c
    · have lt : c < p * c := by
        have := Nat.mul_le_mul_right c hp
        omega
      obtain ⟨e, B', h1, h2, h3⟩ := ih c lt c0 q
      exact ⟨e + 1, B', by rw [h1, Nat.pow_succ p (e + 1), Nat.mul_comm p, Nat.mul_right_comm], h2, h3⟩
    · exact ⟨0, c, by rw [Nat.zero_add, Nat.pow_one], q, c0⟩
theorem tot_step {m : Nat} {b : Int} (cop : ∀ p, Pri p → p ∣ m → ¬ (p : Int) ∣ b) : ∀ (qs : List Nat) (A B t : Nat), qs.Pairwise (· < ·) → m = A * B → 0 < A → 0 < B → 0 < t → (A : Int) ∣ b ^ t - 1 →
    (∀ q, Pri q → q ∣ B → q ∈ qs) → (∀ q ∈ qs, Pri q ∧ q ∣ m ∧ ¬ q ∣ A) → (m : Int) ∣ b ^ (tot (t * B) qs) - 1 ∧ 0 < tot (t * B) qs
  | [], A, B, t, _, hm, hA, hB, ht, hd, hall, _ => by
    have e : B = 1 := by
      refine Classical.byContradiction fun q => ?_
      obtain ⟨p, hp, hd⟩ := exists_pri B (by omega)
      exact absurd (hall p hp hd) (by simp)
    subst e
    rw [Nat.mul_one] at hm
    subst hm
    unfold tot
    simp only [List.foldl_nil, Nat.mul_one]
    exact ⟨hd, ht⟩
  | p :: r, A, B, t, hs, hm, hA, hB, ht, hd, hall, hq => by
    obtain ⟨hp, hpm, hpA⟩ := hq p (by simp)
    have p2 := hp.1
    have pB : p ∣ B := by
      rw [hm] at hpm
      rcases hp.mul hpm with z | z
      · exact absurd z hpA
      · exact z
    obtain ⟨e, B', rfl, hB', hB0⟩ := split_pow p2 B hB pB
    have pw : 0 < p ^ e := Nat.pow_pos (by omega)
    have hcop : Nat.Coprime A (p ^ (e + 1)) := (Nat.Coprime.pow_left (e + 1) (hp.cop hpA)).symm
    have nb : ¬ (p : Int) ∣ b := cop p hp (by rw [hm]; exact Nat.dvd_mul_left_of_dvd pB A)
    have d1 : (A : Int) ∣ b ^ (t * (p ^ e * (p - 1))) - 1 := one_pow_dvd hd _
    have d2 : ((p ^ (e + 1) : Nat) : Int) ∣ b ^ (t * (p ^ e * (p - 1))) - 1 := by
      rw [Nat.mul_comm t]
      have := one_pow_dvd (euler_pp hp nb e) t
      push_cast
      exact this
    have d3 := cop_mul hcop d1 d2
    have val : t * (p ^ (e + 1) * B') / p * (p - 1) = t * (p ^ e * (p - 1)) * B' := by
      have : t * (p ^ (e + 1) * B') = p * (t * p ^ e * B') := by
        rw [Nat.pow_succ]
        simp only [Nat.mul_assoc, Nat.mul_comm, Nat.mul_left_comm]
      rw [this, Nat.mul_div_cancel_left _ (by omega)]
      simp only [Nat.mul_assoc, Nat.mul_comm, Nat.mul_left_comm]
    have ht' : 0 < t * (p ^ e * (p - 1)) := Nat.mul_pos ht (Nat.mul_pos pw (by omega))
    have step := tot_step cop r (A * p ^ (e + 1)) B' (t * (p ^ e * (p - 1))) (List.pairwise_cons.mp hs).2 (by rw [hm, Nat.mul_assoc]) (Nat.mul_pos hA (Nat.pow_pos (by omega))) hB0 ht' d3 ?_ ?_
    · show (m : Int) ∣ b ^ (tot (t * (p ^ (e + 1) * B') / p * (p - 1)) r) - 1 ∧ 0 < tot (t * (p ^ (e + 1) * B') / p * (p - 1)) r
      rw [val]
      exact step
    · intro q hqp hqB
      have := hall q hqp (Nat.dvd_mul_left_of_dvd hqB _)
      rcases List.mem_cons.mp this with z | z
      · exact absurd (z ▸ hqB) hB'
      · exact z
    · intro q hqr
      obtain ⟨h1, h2, h3⟩ := hq q (by simp [hqr])
      refine ⟨h1, h2, fun z => ?_⟩
      rcases h1.mul z with z | z
      · exact h3 z
      · have zp := h1.pow z
        rcases hp.2 q zp with w | w
        · have := h1.1; omega
        · have := (List.pairwise_cons.mp hs).1 q hqr
          omega
theorem euler {m : Nat} {ps : List Nat} (h : PL m ps) (hm : 0 < m) {b : Int} (cop : ∀ p, Pri p → p ∣ m → ¬ (p : Int) ∣ b) : (m : Int) ∣ b ^ (tot m ps) - 1 ∧ 0 < tot m ps := by
  have := tot_step cop ps 1 m 1 h.asc (by omega) (by decide) hm (by decide) (by simp) h.all (fun q hq => ⟨(h.pr q hq).1, (h.pr q hq).2, fun z => by
    have := Nat.le_of_dvd (by decide) z
    have := (h.pr q hq).1.1
    omega⟩)
  rwa [Nat.one_mul] at this
/-- o is the order of b by m: shown by the primes -/
structure Ord (b : Int) (m o : Nat) : Prop where
  pos : 0 < o
  one : (m : Int) ∣ b ^ o - 1
  low : ∀ p, Pri p → p ∣ o → ¬ (m : Int) ∣ b ^ (o / p) - 1
theorem rest_dvd {m b : Int} {i j : Nat} (hi : m ∣ b ^ i - 1) (hj : m ∣ b ^ j - 1) : m ∣ b ^ (i % j) - 1 := by
  have e : i = j * (i / j) + i % j := (Nat.div_add_mod i j).symm
  have d := one_pow_dvd hj (i / j)
  have k : b ^ i - 1 = (b ^ (j * (i / j)) - 1) * b ^ (i % j) + (b ^ (i % j) - 1) := by
    conv => lhs; rw [e, Int.pow_add]
    rw [Int.sub_mul, Int.one_mul]
    omega
  rw [k] at hi
  have d2 : m ∣ (b ^ (j * (i / j)) - 1) * b ^ (i % j) := Int.dvd_mul_of_dvd_left d
  have := Int.dvd_sub hi d2
  rwa [Int.add_comm, Int.add_sub_cancel] at this
theorem gcd_dvd {m b : Int} : ∀ (j i : Nat), m ∣ b ^ i - 1 → m ∣ b ^ j - 1 → m ∣ b ^ (Nat.gcd j i) - 1 := by
  intro j
  induction j using Nat.strongRecOn with
  | _ j ih =>
    intro i hi hj
    by_cases z : j = 0
    · subst z; rwa [Nat.gcd_zero_left]
    · rw [Nat.gcd_rec]
      exact ih (i % j) (Nat.mod_lt _ (by omega)) j hj (rest_dvd hi hj)
theorem Ord.dvd {b : Int} {m o k : Nat} (h : Ord b m o) (hk : (m : Int) ∣ b ^ k - 1) : o ∣ k := by
  have g := gcd_dvd o k hk h.one
  have g1 := Nat.gcd_dvd_left o k
  by_cases e : Nat.gcd o k = o
  · rw [← e]; exact Nat.gcd_dvd_right o k
  · exfalso
    have gp : 0 < Nat.gcd o k := Nat.gcd_pos_of_pos_left _ h.pos
    obtain ⟨c, hc⟩ := g1
    have c2 : 2 ≤ c := by
      rcases Nat.lt_or_ge c 2 with z | z
      · have : c = 0 ∨ c = 1 := by omega
        rcases this with z | z
        · rw [z, Nat.mul_zero] at hc; have := h.pos; omega
        · rw [z, Nat.mul_one] at hc; exact absurd hc.symm e
      · exact z
    obtain ⟨p, hp, q, hq⟩ := exists_pri c c2
    have p2 := hp.1
    have ho : o = p * (Nat.gcd o k * q) := by
      rw [hq] at hc
      generalize Nat.gcd o k = G at *
      rw [hc]
      simp only [Nat.mul_assoc, Nat.mul_comm, Nat.mul_left_comm]
    refine h.low p hp ⟨_, ho⟩ ?_
    have od : o / p = Nat.gcd o k * q := by
      conv => lhs; rw [ho]
      exact Nat.mul_div_cancel_left _ (by omega)
    rw [od]
    exact one_pow_dvd g q
end Nt

/-! the prime divisors by trial -/
namespace Nt
structure PSt (n : Nat) (told : List Nat) (left d : Nat) : Prop where
  l0 : 0 < left
  d2 : 2 ≤ d
  ld : left ∣ n
  pr : ∀ p ∈ told, Pri p ∧ p ∣ n ∧ p < d
  al : ∀ p, Pri p → p ∣ n → p ∈ told ∨ p ∣ left
  nd : ∀ q, 2 ≤ q → q < d → ¬ q ∣ left
  as : told.Pairwise (· < ·)
theorem PSt.start {n : Nat} (h : 0 < n) : PSt n [] n 2 :=
  ⟨h, Nat.le_refl _, Nat.dvd_refl _, fun p hp => by simp at hp, fun p _ hd => .inr hd, fun q h1 h2 => by omega, .nil⟩
theorem PSt.skip {n left d : Nat} {told : List Nat} (h : PSt n told left d) (hn : ¬ d ∣ left) : PSt n told left (d + 1) :=
  ⟨h.l0, by have := h.d2; omega, h.ld, fun p hp => let ⟨a, b, c⟩ := h.pr p hp; ⟨a, b, by omega⟩, h.al, fun q h1 h2 => by
    by_cases e : q = d
    · rw [e]; exact hn
    · exact h.nd q h1 (by omega), h.as⟩
theorem PSt.prime {n left d : Nat} {told : List Nat} (h : PSt n told left d) (hd : d ∣ left) : Pri d := by
  refine ⟨h.d2, fun q hq => ?_⟩
  have le := Nat.le_of_dvd (by have := h.d2; omega) hq
  by_cases e : q = d
  · exact .inr e
  · by_cases e1 : q = 1
    · exact .inl e1
    · have q0 : 0 < q := Nat.pos_of_dvd_of_pos hq (by have := h.d2; omega)
      exact absurd (Nat.dvd_trans hq hd) (h.nd q (by omega) (by omega))
structure PM (left0 d left : Nat) : Prop where
  l0 : 0 < left
  dv : left ∣ left0
  al : ∀ p, Pri p → p ∣ left0 → p = d ∨ p ∣ left
theorem PM.start {left0 d : Nat} (h : 0 < left0) : PM left0 d left0 := ⟨h, Nat.dvd_refl _, fun p _ hd => .inr hd⟩
theorem PM.step {left0 d left : Nat} (h : PM left0 d left) (hp : Pri d) (hd : d ∣ left) : PM left0 d (left / d) ∧ left / d < left := by
  obtain ⟨c, rfl⟩ := hd
  have d2 := hp.1
  have l0 := h.l0
  have c0 : 0 < c := by
    rcases Nat.eq_zero_or_pos c with e | e
    · rw [e] at l0; simp at l0
    · exact e
  rw [Nat.mul_div_cancel_left _ (by omega)]
  have lt : c < d * c := by
    have := Nat.mul_le_mul_right c d2
    omega
  refine ⟨⟨c0, Nat.dvd_trans (Nat.dvd_mul_left c d) h.dv, fun p pp pd => ?_⟩, lt⟩
  rcases h.al p pp pd with z | z
  · exact .inl z
  · rcases pp.mul z with z | z
    · rcases hp.2 p z with w | w
      · have := pp.1; omega
      · exact .inl w
    · exact .inr z
theorem PSt.next {n left0 left d : Nat} {told : List Nat} (h : PSt n told left0 d) (hd : d ∣ left0) (m : PM left0 d left) (hn : ¬ d ∣ left) : PSt n (told ++ [d]) left (d + 1) := by
  have hp := h.prime hd
  refine ⟨m.l0, by have := h.d2; omega, Nat.dvd_trans m.dv h.ld, ?_, ?_, ?_, ?_⟩
  · intro p hm
    rcases List.mem_append.mp hm with z | z
    · obtain ⟨a, b, c⟩ := h.pr p z; exact ⟨a, b, by omega⟩
    · rw [List.mem_singleton.mp z]; exact ⟨hp, Nat.dvd_trans hd h.ld, by omega⟩
  · intro p pp pd
    rcases h.al p pp pd with z | z
    · exact .inl (List.mem_append_left _ z)
    · rcases m.al p pp z with z | z
      · exact .inl (List.mem_append_right _ (List.mem_singleton.mpr z))
      · exact .inr z
  · intro q h1 h2 hq
    by_cases e : q = d
    · rw [e] at hq; exact hn hq
    · exact h.nd q h1 (by omega) (Nat.dvd_trans hq m.dv)
  · refine List.pairwise_append.mpr ⟨h.as, by simp, fun x hx y hy => ?_⟩
    rw [List.mem_singleton.mp hy]
    exact (h.pr x hx).2.2
theorem PSt.fin {n left d : Nat} {told : List Nat} (h : PSt n told left d) (hlt : left < d * d) : PL n (if 1 < left then told ++ [left] else told) := by
  have d2 := h.d2
  split
  · rename_i h1
    have hp : Pri left := by
      obtain ⟨p, pp, c, rfl⟩ := exists_pri left (by omega)
      have p2 := pp.1
      have pd : d ≤ p := Nat.le_of_not_lt fun z => h.nd p p2 z (Nat.dvd_mul_right p c)
      have c1 : c < 2 := by
        refine Nat.lt_of_not_le fun z => ?_
        have cd : d ≤ c := Nat.le_of_not_lt fun w => h.nd c z w (Nat.dvd_mul_left c p)
        have := Nat.mul_le_mul pd cd
        omega
      have c0 : c ≠ 0 := by
        rintro rfl
        simp at h1
      have : c = 1 := by omega
      rw [this, Nat.mul_one]
      exact pp
    have ld : d ≤ left := Nat.le_of_not_lt fun z => h.nd left (by omega) z (Nat.dvd_refl _)
    refine ⟨fun p hm => ?_, fun p pp pd => ?_, ?_⟩
    · rcases List.mem_append.mp hm with z | z
      · obtain ⟨a, b, _⟩ := h.pr p z; exact ⟨a, b⟩
      · rw [List.mem_singleton.mp z]; exact ⟨hp, h.ld⟩
    · rcases h.al p pp pd with z | z
      · exact List.mem_append_left _ z
      · rcases hp.2 p z with w | w
        · have := pp.1; omega
        · exact List.mem_append_right _ (List.mem_singleton.mpr w)
    · refine List.pairwise_append.mpr ⟨h.as, by simp, fun x hx y hy => ?_⟩
      rw [List.mem_singleton.mp hy]
      have := (h.pr x hx).2.2
      omega
  · rename_i h1
    have e : left = 1 := by have := h.l0; omega
    refine ⟨fun p hm => ⟨(h.pr p hm).1, (h.pr p hm).2.1⟩, fun p pp pd => ?_, h.as⟩
    rcases h.al p pp pd with z | z
    · exact z
    · rw [e] at z
      have := Nat.le_of_dvd (by decide) z
      have := pp.1
      omega
/-- the order, prime by prime -/
structure OSt (b : Int) (m most o : Nat) (done : List Nat) : Prop where
  pos : 0 < o
  dv : o ∣ most
  one : (m : Int) ∣ b ^ o - 1
  low : ∀ p ∈ done, Pri p → p ∣ o → ¬ (m : Int) ∣ b ^ (o / p) - 1
theorem OSt.start {b : Int} {m most : Nat} (h0 : 0 < most) (h1 : (m : Int) ∣ b ^ most - 1) : OSt b m most most [] := ⟨h0, Nat.dvd_refl _, h1, fun p hp => by simp at hp⟩
theorem OSt.step {b : Int} {m most o q : Nat} {done : List Nat} (h : OSt b m most o done) (hq : Pri q) (hd : q ∣ o) (h1 : (m : Int) ∣ b ^ (o / q) - 1) : OSt b m most (o / q) done ∧ o / q < o := by
  obtain ⟨c, rfl⟩ := hd
  have q2 := hq.1
  have o0 := h.pos
  have hc : q * c / q = c := Nat.mul_div_cancel_left _ (by omega)
  rw [hc] at h1 ⊢
  have c0 : 0 < c := by
    rcases Nat.eq_zero_or_pos c with e | e
    · rw [e] at o0; simp at o0
    · exact e
  have lt : c < q * c := by
    have := Nat.mul_le_mul_right c q2
    omega
  refine ⟨⟨c0, Nat.dvd_trans (Nat.dvd_mul_left c q) h.dv, h1, fun p hp pp pd z => ?_⟩, lt⟩
  refine h.low p hp pp (Nat.dvd_mul_left_of_dvd pd q) ?_
  rw [Nat.mul_div_assoc q pd, Nat.mul_comm]
  exact one_pow_dvd z q
theorem OSt.next {b : Int} {m most o q : Nat} {done : List Nat} (h : OSt b m most o done) (hn : q ∣ o → ¬ (m : Int) ∣ b ^ (o / q) - 1) : OSt b m most o (done ++ [q]) :=
  ⟨h.pos, h.dv, h.one, fun p hp pp pd => by
    rcases List.mem_append.mp hp with z | z
    · exact h.low p z pp pd
    · rw [List.mem_singleton.mp z] at pd ⊢
      exact hn pd⟩
theorem OSt.fin {b : Int} {m most o : Nat} {ps : List Nat} (h : OSt b m most o ps) (hl : PL most ps) : Ord b m o :=
  ⟨h.pos, h.one, fun p pp pd => h.low p (hl.all p pp (Nat.dvd_trans pd h.dv)) pp pd⟩
/-- what a power tells -/
theorem Pw.val {b : Int} {m e : Nat} {v : Int} (h : Pw b e m v) : v = b ^ e % (m : Int) := by
  obtain ⟨f, fc, rfl⟩ := h
  rw [fc.pos (by omega), pow_rest, Int.natAbs_natCast]
theorem Pw.one {b : Int} {m e : Nat} {v : Int} (h : Pw b e m v) : v = 1 % (m : Int) ↔ (m : Int) ∣ b ^ e - 1 := by
  rw [h.val, Int.emod_eq_emod_iff_emod_sub_eq_zero]
  exact ⟨Int.dvd_of_emod_eq_zero, Int.emod_eq_zero_of_dvd⟩
theorem mod0 {l d : Nat} : ((l : Int) % (d : Int) = 0) ↔ d ∣ l :=
  ⟨fun h => Int.natCast_dvd_natCast.mp (Int.dvd_of_emod_eq_zero h), fun h => Int.emod_eq_zero_of_dvd (Int.natCast_dvd_natCast.mpr h)⟩
theorem cop_of {b : Int} {m : Nat} (h : Nat.gcd (b % (m : Int)).toNat m = 1) (hm : 0 < m) : ∀ p, Pri p → p ∣ m → ¬ (p : Int) ∣ b := by
  intro p hp hd hb
  have n0 := Int.emod_nonneg b (show (m : Int) ≠ 0 by omega)
  have d : (p : Int) ∣ b % (m : Int) := by
    have e := Int.emod_add_mul_ediv b m
    have dm : (p : Int) ∣ (m : Int) * (b / m) := Int.dvd_mul_of_dvd_left (Int.natCast_dvd_natCast.mpr hd)
    have := Int.dvd_sub hb dm
    rwa [show b - (m : Int) * (b / m) = b % m by omega] at this
  have d2 : p ∣ (b % (m : Int)).toNat := by
    rw [show b % (m : Int) = ((b % (m : Int)).toNat : Int) by omega] at d
    exact Int.natCast_dvd_natCast.mp d
  have := Nat.dvd_gcd d2 hd
  rw [h] at this
  have := Nat.le_of_dvd (by decide) this
  have := hp.1
  omega
theorem PL.le {n : Nat} {ps : List Nat} (h : PL n ps) (hn : 0 < n) : ∀ p ∈ ps, 2 ≤ p ∧ p ≤ n := fun p hp => ⟨(h.pr p hp).1.1, Nat.le_of_dvd hn (h.pr p hp).2⟩
theorem tot_le : ∀ (ps : List Nat) (n : Nat), (∀ p ∈ ps, 2 ≤ p) → tot n ps ≤ n
  | [], n, _ => Nat.le_refl _
  | p :: r, n, h => by
    have h2 := h p (by simp)
    have a := tot_le r (n / p * (p - 1)) fun q hq => h q (by simp [hq])
    have b : n / p * (p - 1) ≤ n := by
      have := Nat.mul_le_mul_left (n / p) (show p - 1 ≤ p by omega)
      have := Nat.div_mul_le_self n p
      omega
    exact Nat.le_trans a b
end Nt

/-! powers put together -/
namespace Nt
theorem mul_cg {a b c d m : Int} (h1 : a % m = b % m) (h2 : c % m = d % m) : a * c % m = b * d % m := by
  rw [Int.mul_emod, h1, h2, ← Int.mul_emod]
theorem pw_char {b e m v : Int} (h : Pw b e m v) (k : Nat) (hk : 0 ≤ (k : Int) + e) : v * b ^ k % m = b ^ ((k : Int) + e).toNat % m := by
  obtain ⟨f, fc, rfl⟩ := h
  rw [emod_mul_left]
  by_cases z : 0 ≤ e
  · rw [fc.pos z]
    have e1 : ((k : Int) + e).toNat = e.natAbs + k := by omega
    rw [e1, Int.pow_add]
    exact mul_cg (pow_rest _ _ _) rfl
  · have n := fc.neg (by omega)
    have e1 : k = e.natAbs + ((k : Int) + e).toNat := by omega
    generalize ((k : Int) + e).toNat = j at *
    rw [e1, Int.pow_add, ← Int.mul_assoc]
    have q : f ^ e.natAbs * b ^ e.natAbs % m = 1 % m := by
      rw [← Int.mul_pow, Int.mul_comm, ← pow_rest, n, pow_rest, Int.one_pow]
    have := mul_cg q (rfl : b ^ j % m = b ^ j % m)
    rwa [Int.one_mul] at this
theorem pow_cancel {b f m x y : Int} (u : b * f % m = 1 % m) {k : Nat} (h : x * b ^ k % m = y * b ^ k % m) : x % m = y % m := by
  have q : b ^ k * f ^ k % m = 1 % m := by rw [← Int.mul_pow, ← pow_rest, u, pow_rest, Int.one_pow]
  have a := mul_cg h (rfl : f ^ k % m = f ^ k % m)
  rw [Int.mul_assoc, Int.mul_assoc] at a
  have b1 := mul_cg (rfl : x % m = x % m) q
  have b2 := mul_cg (rfl : y % m = y % m) q
  rw [b1, b2, Int.mul_one, Int.mul_one] at a
  exact a
theorem unit_of {b m : Int} (h : ∃ x y, b * x + m * y = 1) : ∃ f, b * f % m = 1 % m := by
  obtain ⟨x, y, h⟩ := h
  refine ⟨x, ?_⟩
  rw [← h, Int.add_mul_emod_self_left]
theorem pw_add {b m a c u v w : Int} (bz : ∃ x y, b * x + m * y = 1) (hu : Pw b a m u) (hv : Pw b c m v) (hw : Pw b (a + c) m w) : u * v % m = w % m := by
  obtain ⟨f, hf⟩ := unit_of bz
  refine pow_cancel hf (k := a.natAbs + c.natAbs) ?_
  have h1 := pw_char hu a.natAbs (by omega)
  have h2 := pw_char hv c.natAbs (by omega)
  have h3 := pw_char hw (a.natAbs + c.natAbs) (by omega)
  have e : (((a.natAbs + c.natAbs : Nat) : Int) + (a + c)).toNat = ((a.natAbs : Int) + a).toNat + ((c.natAbs : Int) + c).toNat := by omega
  rw [h3, e, Int.pow_add, Int.pow_add, show u * v * (b ^ a.natAbs * b ^ c.natAbs) = (u * b ^ a.natAbs) * (v * b ^ c.natAbs) by simp only [Int.mul_assoc, Int.mul_left_comm]]
  exact mul_cg h1 h2
theorem pw_zero {b m w : Int} (hw : Pw b 0 m w) : w = 1 % m := by
  obtain ⟨f, fc, rfl⟩ := hw
  simp
theorem pw_uniq {b m a u w : Int} (bz : ∃ x y, b * x + m * y = 1) (hm : 0 < m) (hu : Pw b a m u) (hw : Pw b a m w) : u = w := by
  obtain ⟨f, hf⟩ := unit_of bz
  have := pow_cancel hf (k := a.natAbs) (x := u) (y := w) (by rw [pw_char hu _ (by omega), pw_char hw _ (by omega)])
  rwa [Int.emod_eq_of_lt (hu.lo hm) (hu.hi hm), Int.emod_eq_of_lt (hw.lo hm) (hw.hi hm)] at this
/-- behind as many as the order, there and back -/
theorem pw_ord {b : Int} {m o : Nat} {w : Int} (bz : ∃ x y, b * x + (m : Int) * y = 1) (h : (m : Int) ∣ b ^ o - 1) (hw : Pw b (-(o : Int)) m w) : w % m = 1 % m := by
  obtain ⟨f, hf⟩ := unit_of bz
  refine pow_cancel hf (k := o) ?_
  rw [pw_char hw o (by omega), show ((o : Int) + -(o : Int)).toNat = 0 by omega, Int.pow_zero, Int.one_mul]
  exact ((Int.emod_eq_emod_iff_emod_sub_eq_zero).mpr (Int.emod_eq_zero_of_dvd h)).symm
theorem pw_ord' {b : Int} {m o : Nat} {w : Int} (hw : Pw b (-(o : Int)) m w) (h : w % m = 1 % m) : (m : Int) ∣ b ^ o - 1 := by
  have c := pw_char hw o (by omega)
  rw [show ((o : Int) + -(o : Int)).toNat = 0 by omega, Int.pow_zero] at c
  have := mul_cg h (rfl : b ^ o % (m : Int) = b ^ o % (m : Int))
  rw [c, Int.one_mul] at this
  exact Int.dvd_of_emod_eq_zero ((Int.emod_eq_emod_iff_emod_sub_eq_zero).mp this.symm)
/-! stepped -/
section
variable {rows row a c h r s : Int}
theorem Stp.lt (hr : 0 < rows) (h0 : 0 ≤ row) (h1 : row < rows) (x : Stp rows row a r) : 0 ≤ r ∧ r < rows ∧ (row ≠ Md rows → r < Md rows) := by
  have mp := Md_pos hr
  have ml : Md rows ≤ rows := by unfold Md; omega
  by_cases e : row = Md rows
  · rw [x.1 e]; exact ⟨h0, h1, fun z => absurd e z⟩
  · obtain ⟨v, _, rfl⟩ := x.2 e
    have := Int.emod_nonneg (row * v) (show Md rows ≠ 0 by omega)
    have := Int.emod_lt_of_pos (row * v) mp
    exact ⟨by omega, by omega, fun _ => by omega⟩
theorem Stp.add (hr : 0 < rows) (h0 : 0 ≤ row) (h1 : row < rows) (x : Stp rows row a h) (y : Stp rows h c r) (z : Stp rows row (a + c) s) : r = s := by
  have mp := Md_pos hr
  by_cases e : row = Md rows
  · have eh := x.1 e
    rw [y.1 (by omega), z.1 e, eh]
  · have hl := x.lt hr h0 h1
    obtain ⟨u, pu, rfl⟩ := x.2 e
    have hn := hl.2.2 e
    obtain ⟨v, pv, rfl⟩ := y.2 (by omega)
    obtain ⟨w, pw, rfl⟩ := z.2 e
    rw [emod_mul_left, Int.mul_assoc]
    refine mul_cg rfl ?_
    refine pw_add (bez2 rows) pu pv ?_
    rwa [show -a + -c = -(a + c) by omega]
theorem Stp.zero (hr : 0 < rows) (h0 : 0 ≤ row) (h1 : row < rows) (x : Stp rows row 0 r) : r = row := by
  have := stp_led hr h0 h1 x
  rw [this]
  unfold led iter
  simp
theorem Stp.back (hr : 0 < rows) (h0 : 0 ≤ row) (h1 : row < rows) (x : Stp rows row a h) (y : Stp rows h (-a) r) : r = row := by
  have mp := Md_pos hr
  by_cases e : row = Md rows
  · have eh := x.1 e
    rw [y.1 (by omega), eh]
  · have ml : Md rows ≤ rows := by unfold Md; omega
    have hl := x.lt hr h0 h1
    obtain ⟨u, pu, rfl⟩ := x.2 e
    have hn := hl.2.2 e
    obtain ⟨v, pv, rfl⟩ := y.2 (by omega)
    rw [emod_mul_left, Int.mul_assoc]
    have one : u * v % Md rows = 1 % Md rows := by
      have p0 : Pw 2 (-a + - -a) (Md rows) (1 % Md rows) := ⟨2 % Md rows, ⟨Int.emod_nonneg _ (by omega), Int.emod_lt_of_pos _ mp, fun _ => rfl, fun z => by omega⟩, by rw [show (-a + - -a) = 0 by omega]; simp⟩
      have := pw_add (bez2 rows) pu pv p0
      rwa [Int.emod_emod] at this
    have := mul_cg (rfl : row % Md rows = row % Md rows) one
    rw [this, Int.mul_one, Int.emod_eq_of_lt h0 (by unfold Md at *; omega)]
theorem Stp.one (hr : 0 < rows) (h0 : 0 ≤ row) (h1 : row < rows) (x : Stp rows row 1 r) : r = oth rows row := by
  rw [stp_led hr h0 h1 x]; rfl
theorem Stp.mone (hr : 0 < rows) (h0 : 0 ≤ row) (h1 : row < rows) (x : Stp rows row (-1) r) : r = fil rows row := by
  rw [stp_led hr h0 h1 x]; rfl
theorem Stp.home {m o : Nat} (hm : Md rows = m) (hr : 0 < rows) (h0 : 0 ≤ row) (h1 : row < rows) (d : (m : Int) ∣ 2 ^ o - 1) (x : Stp rows row o r) : r = row := by
  have mp := Md_pos hr
  by_cases e : row = Md rows
  · exact x.1 e
  · obtain ⟨v, pv, rfl⟩ := x.2 e
    rw [hm] at pv ⊢
    have := mul_cg (rfl : row % (m : Int) = row % (m : Int)) (pw_ord (hm ▸ bez2 rows) d pv)
    rw [this, Int.mul_one, Int.emod_eq_of_lt h0 (by unfold Md at *; omega)]
theorem Stp.away {m o : Nat} (hm : Md rows = m) (hr : 0 < rows) (h1 : 1 < Md rows) (d : ¬ (m : Int) ∣ 2 ^ o - 1) (x : Stp rows 1 o r) : r ≠ 1 := by
  obtain ⟨v, pv, rfl⟩ := x.2 (by omega)
  intro z
  rw [hm] at pv z
  rw [Int.one_mul] at z
  refine d (pw_ord' pv ?_)
  rw [z, Int.emod_eq_of_lt (by decide) (by omega)]
end
end Nt

/-! a line is read row by row and stands file by file, again and again -/
namespace Nt
section
variable {F R : Int}
def lst (F R : Int) : Int := F * R - 1
def hl (F R n : Int) : Int := (n - R * (n / R)) * F + n / R
def pr (F R n : Int) : Int := (n % F) * R + n / F
def halves (F R n k : Int) : Int := if 0 < k then iter (hl F R) k.natAbs n else iter (pr F R) k.natAbs n
/-- what halved tells, in numbers -/
def Hlv (F R n k m : Int) : Prop := (n = lst F R → m = n) ∧ (n ≠ lst F R → ∃ v, Pw F k (lst F R) v ∧ m = n * v % lst F R)
theorem lst_pos (hF : 2 ≤ F) (hR : 1 ≤ R) : 0 < lst F R := by
  have := Int.mul_le_mul hF hR (by omega) (by omega)
  unfold lst; omega
theorem bezF : ∃ x y : Int, F * x + lst F R * y = 1 := ⟨R, -1, by unfold lst; omega⟩
/-- a number of a place: row and file -/
theorem num_lt {q r : Int} (hF : 0 < F) (h0 : 0 ≤ q) (h1 : q < R) (h2 : 0 ≤ r) (h3 : r < F) : 0 ≤ q * F + r ∧ q * F + r ≤ lst F R ∧ (q * F + r = lst F R → q = R - 1 ∧ r = F - 1) := by
  have a : q * F ≤ (R - 1) * F := Int.mul_le_mul_of_nonneg_right (by omega) (by omega)
  have b : 0 ≤ q * F := Int.mul_nonneg h0 (by omega)
  have c : (R - 1) * F = F * R - F := by rw [Int.sub_mul, Int.one_mul, Int.mul_comm]
  unfold lst
  refine ⟨by omega, by omega, fun e => ?_⟩
  have d : q = R - 1 := by
    by_cases z : q ≤ R - 2
    · have := Int.mul_le_mul_of_nonneg_right z (show 0 ≤ F by omega)
      have e2 : (R - 2) * F = F * R - 2 * F := by rw [Int.sub_mul, Int.mul_comm R]
      omega
    · omega
  refine ⟨d, ?_⟩
  rw [d] at e
  omega
theorem div_lt {n A B : Int} (hA : 0 < A) (h0 : 0 ≤ n) (h1 : n ≤ A * B - 1) : 0 ≤ n / A ∧ n / A < B ∧ 0 ≤ n % A ∧ n % A < A ∧ n = A * (n / A) + n % A := by
  have e := Int.emod_add_mul_ediv n A
  refine ⟨Int.ediv_nonneg h0 (by omega), ?_, Int.emod_nonneg _ (by omega), Int.emod_lt_of_pos _ hA, by omega⟩
  exact Int.ediv_lt_of_lt_mul hA (by rw [Int.mul_comm]; omega)
theorem hl_ok (hF : 2 ≤ F) (hR : 1 ≤ R) {n : Int} (h0 : 0 ≤ n) (h1 : n ≤ lst F R) :
    0 ≤ hl F R n ∧ hl F R n ≤ lst F R ∧ hl F R n / F = n - R * (n / R) ∧ hl F R n % F = n / R ∧ n * F = lst F R * (n / R) + hl F R n ∧ (hl F R n = lst F R ↔ n = lst F R) := by
  have h1' : n ≤ R * F - 1 := by unfold lst at h1; rw [Int.mul_comm R]; exact h1
  obtain ⟨a, b, c, d, e⟩ := div_lt (by omega) h0 h1'
  have er : n - R * (n / R) = n % R := by omega
  unfold hl
  rw [er]
  generalize n / R = q at *
  generalize n % R = r at *
  obtain ⟨x, y, z⟩ := num_lt (F := F) (R := R) (by omega) c d a b
  have k : n * F = lst F R * q + (r * F + q) := by
    unfold lst
    rw [e, Int.add_mul, Int.sub_mul, Int.mul_assoc, Int.mul_comm q F, ← Int.mul_assoc, Int.mul_comm R F]
    omega
  refine ⟨x, y, ?_, ?_, k, ?_, ?_⟩
  · rw [Int.add_comm, Int.add_mul_ediv_right _ _ (by omega), Int.ediv_eq_zero_of_lt a b, Int.zero_add]
  · rw [Int.add_comm, Int.add_mul_emod_self_right, Int.emod_eq_of_lt a b]
  · intro w
    obtain ⟨u, v⟩ := z w
    rw [e, u, v]
    unfold lst
    rw [Int.mul_sub, Int.mul_comm R F]
    omega
  · intro w
    have q2 : q = F - 1 := by
      by_cases w2 : q ≤ F - 2
      · exfalso
        have t : R * q ≤ R * (F - 2) := Int.mul_le_mul_of_nonneg_left w2 (by omega)
        have t2 : R * (F - 2) = F * R - 2 * R := by rw [Int.mul_sub, Int.mul_comm R F]; omega
        unfold lst at w
        omega
      · omega
    rw [w, q2] at e
    unfold lst at e ⊢
    have t2 : R * (F - 1) = F * R - R := by rw [Int.mul_sub, Int.mul_comm R F]; omega
    have r2 : r = R - 1 := by omega
    rw [r2, q2, Int.sub_mul, Int.mul_comm R F]
    omega
theorem pr_ok (hF : 2 ≤ F) (hR : 1 ≤ R) {n : Int} (h0 : 0 ≤ n) (h1 : n ≤ lst F R) :
    0 ≤ pr F R n ∧ pr F R n ≤ lst F R ∧ pr F R n * F = lst F R * (n % F) + n ∧ (pr F R n = lst F R ↔ n = lst F R) := by
  obtain ⟨a, b, c, d, e⟩ := div_lt (A := F) (B := R) (by omega) h0 h1
  unfold pr
  generalize n / F = q at *
  generalize n % F = r at *
  have sw : lst R F = lst F R := by unfold lst; rw [Int.mul_comm]
  obtain ⟨x, y, z⟩ := num_lt (F := R) (R := F) (by omega) c d a b
  rw [sw] at y z
  have k : (r * R + q) * F = lst F R * r + n := by
    unfold lst
    rw [e, Int.add_mul, Int.sub_mul, Int.mul_assoc, Int.mul_comm R F, Int.mul_comm r, Int.mul_comm q]
    omega
  refine ⟨x, y, k, ?_, ?_⟩
  · intro w
    obtain ⟨u, v⟩ := z w
    rw [e, u, v]
    unfold lst
    rw [Int.mul_sub]
    omega
  · intro w
    have q2 : q = R - 1 := by
      by_cases w2 : q ≤ R - 2
      · exfalso
        have t : F * q ≤ F * (R - 2) := Int.mul_le_mul_of_nonneg_left w2 (by omega)
        have t2 : F * (R - 2) = F * R - 2 * F := by rw [Int.mul_sub]; omega
        unfold lst at w
        omega
      · omega
    rw [w, q2] at e
    unfold lst at e ⊢
    have t2 : F * (R - 1) = F * R - F := by rw [Int.mul_sub]; omega
    have r2 : r = F - 1 := by omega
    rw [r2, q2, Int.sub_mul]
    omega
theorem hl_mul (hF : 2 ≤ F) (hR : 1 ≤ R) {x : Int} (h0 : 0 ≤ x) (h1 : x < lst F R) : hl F R x = x * (F % lst F R) % lst F R := by
  obtain ⟨a, b, _, _, k, i⟩ := hl_ok hF hR h0 (Int.le_of_lt h1)
  have lt : hl F R x < lst F R := by
    by_cases z : hl F R x = lst F R
    · have := i.mp z; omega
    · omega
  rw [emod_mul_right, k, Int.add_comm, Int.add_mul_emod_self_left, Int.emod_eq_of_lt a lt]
theorem pr_mul (hF : 2 ≤ F) (hR : 1 ≤ R) {f : Int} (hf : F * f % lst F R = 1 % lst F R) {x : Int} (h0 : 0 ≤ x) (h1 : x < lst F R) : pr F R x = x * f % lst F R := by
  obtain ⟨a, b, k, i⟩ := pr_ok hF hR h0 (Int.le_of_lt h1)
  have lt : pr F R x < lst F R := by
    by_cases z : pr F R x = lst F R
    · have := i.mp z; omega
    · omega
  have c : x % lst F R = pr F R x * F % lst F R := by rw [k, Int.add_comm, Int.add_mul_emod_self_left]
  have d : x * f % lst F R = pr F R x % lst F R := by
    rw [Int.mul_emod x f, c, ← Int.mul_emod, Int.mul_assoc, Int.mul_emod (pr F R x), hf, ← Int.mul_emod, Int.mul_one]
  rw [d, Int.emod_eq_of_lt a lt]
theorem hlv_halves (hF : 2 ≤ F) (hR : 1 ≤ R) {n k m : Int} (h0 : 0 ≤ n) (h1 : n ≤ lst F R) (s : Hlv F R n k m) : m = halves F R n k := by
  have hm := lst_pos hF hR
  by_cases e : n = lst F R
  · rw [s.1 e]
    unfold halves
    subst e
    split
    · rw [iter_fix ((hl_ok hF hR (by omega) (Int.le_refl _)).2.2.2.2.2.mpr rfl)]
    · rw [iter_fix ((pr_ok hF hR (by omega) (Int.le_refl _)).2.2.2.mpr rfl)]
  · obtain ⟨v, ⟨f, fc, rfl⟩, rfl⟩ := s.2 e
    have lt : n < lst F R := by omega
    unfold halves
    split
    · rename_i hk
      rw [iter_pow (fun x a b => hl_mul hF hR a b) hm h0 lt, emod_mul_right, fc.pos (by omega)]
    · rename_i hk
      by_cases z : k = 0
      · subst z
        show n * (f ^ 0 % lst F R) % lst F R = n
        rw [Int.pow_zero, emod_mul_right, Int.mul_one, Int.emod_eq_of_lt h0 lt]
      · rw [iter_pow (fun x a b => pr_mul hF hR (fc.neg (by omega)) a b) hm h0 lt, emod_mul_right]
end
end Nt

/-! rounds of halving put together -/
namespace Nt
section
variable {F R n a c h r s m : Int}
theorem Hlv.lt (hF : 2 ≤ F) (hR : 1 ≤ R) (h0 : 0 ≤ n) (h1 : n ≤ lst F R) (x : Hlv F R n a r) : 0 ≤ r ∧ r ≤ lst F R ∧ (n ≠ lst F R → r < lst F R) := by
  have mp := lst_pos hF hR
  by_cases e : n = lst F R
  · rw [x.1 e]; exact ⟨h0, h1, fun z => absurd e z⟩
  · obtain ⟨v, _, rfl⟩ := x.2 e
    have := Int.emod_nonneg (n * v) (show lst F R ≠ 0 by omega)
    have := Int.emod_lt_of_pos (n * v) mp
    exact ⟨by omega, by omega, fun _ => by omega⟩
theorem Hlv.add (hF : 2 ≤ F) (hR : 1 ≤ R) (h0 : 0 ≤ n) (h1 : n ≤ lst F R) (x : Hlv F R n a h) (y : Hlv F R h c r) (z : Hlv F R n (a + c) s) : r = s := by
  by_cases e : n = lst F R
  · have eh := x.1 e
    rw [y.1 (by omega), z.1 e, eh]
  · have hl := x.lt hF hR h0 h1
    obtain ⟨u, pu, rfl⟩ := x.2 e
    have hn := hl.2.2 e
    obtain ⟨v, pv, rfl⟩ := y.2 (by omega)
    obtain ⟨w, pw, rfl⟩ := z.2 e
    rw [emod_mul_left, Int.mul_assoc]
    exact mul_cg rfl (pw_add bezF pu pv pw)
theorem Hlv.back (hF : 2 ≤ F) (hR : 1 ≤ R) (h0 : 0 ≤ n) (h1 : n ≤ lst F R) (x : Hlv F R n a h) (y : Hlv F R h (-a) r) : r = n := by
  have mp := lst_pos hF hR
  by_cases e : n = lst F R
  · have eh := x.1 e
    rw [y.1 (by omega), eh]
  · have hl := x.lt hF hR h0 h1
    obtain ⟨u, pu, rfl⟩ := x.2 e
    have hn := hl.2.2 e
    obtain ⟨v, pv, rfl⟩ := y.2 (by omega)
    rw [emod_mul_left, Int.mul_assoc]
    have one : u * v % lst F R = 1 % lst F R := by
      have p0 : Pw F (a + -a) (lst F R) (1 % lst F R) := ⟨F % lst F R, ⟨Int.emod_nonneg _ (by omega), Int.emod_lt_of_pos _ mp, fun _ => rfl, fun z => by omega⟩, by rw [show (a + -a) = 0 by omega]; simp⟩
      have := pw_add bezF pu pv p0
      rwa [Int.emod_emod] at this
    have := mul_cg (rfl : n % lst F R = n % lst F R) one
    rw [this, Int.mul_one, Int.emod_eq_of_lt h0 (by omega)]
theorem Hlv.one (hF : 2 ≤ F) (hR : 1 ≤ R) (h0 : 0 ≤ n) (h1 : n ≤ lst F R) (x : Hlv F R n 1 m) : m = hl F R n := by
  rw [hlv_halves hF hR h0 h1 x]; rfl
theorem Hlv.mone (hF : 2 ≤ F) (hR : 1 ≤ R) (h0 : 0 ≤ n) (h1 : n ≤ lst F R) (x : Hlv F R n (-1) m) : m = pr F R n := by
  rw [hlv_halves hF hR h0 h1 x]; rfl
theorem Hlv.home {k o : Nat} (hk : lst F R = k) (h0 : 0 ≤ n) (h1 : n ≤ lst F R) (d : (k : Int) ∣ F ^ o - 1) (x : Hlv F R n o r) : r = n := by
  by_cases e : n = lst F R
  · exact x.1 e
  · obtain ⟨v, pv, rfl⟩ := x.2 e
    rw [hk] at pv ⊢
    have o1 := (Pw.one pv).mpr d
    rw [o1, emod_mul_right, Int.mul_one, Int.emod_eq_of_lt h0 (by omega)]
theorem Hlv.first (hF : 2 ≤ F) (hR : 1 ≤ R) (x : Hlv F R 0 a r) : r = 0 := by
  have mp := lst_pos hF hR
  obtain ⟨v, _, rfl⟩ := x.2 (by omega)
  simp
theorem gcdF {k : Nat} (hk : lst F R = k) (hp : 0 < k) (hF : 0 ≤ F) : Nat.gcd (F % (k : Int)).toNat k = 1 := by
  have d1 := Nat.gcd_dvd_left (F % (k : Int)).toNat k
  have d2 := Nat.gcd_dvd_right (F % (k : Int)).toNat k
  generalize Nat.gcd (F % (k : Int)).toNat k = g at *
  have n0 := Int.emod_nonneg F (show (k : Int) ≠ 0 by omega)
  have e1 : (g : Int) ∣ F % (k : Int) := by
    rw [show F % (k : Int) = ((F % (k : Int)).toNat : Int) by omega]
    exact Int.natCast_dvd_natCast.mpr d1
  have e2 : (g : Int) ∣ (k : Int) := Int.natCast_dvd_natCast.mpr d2
  have e3 : (g : Int) ∣ F := by
    have := Int.dvd_add e1 (Int.dvd_mul_of_dvd_left (c := F / (k : Int)) e2)
    rwa [Int.emod_add_mul_ediv] at this
  have e4 : (g : Int) ∣ 1 := by
    have := Int.dvd_sub (Int.dvd_mul_of_dvd_left (c := R) e3) e2
    rwa [show F * R - (k : Int) = 1 by unfold lst at hk; omega] at this
  have := Int.natCast_dvd_natCast.mp (show (g : Int) ∣ ((1 : Nat) : Int) from e4)
  have := Nat.le_of_dvd (by decide) this
  have g0 : g ≠ 0 := by
    rintro rfl
    obtain ⟨x, hx⟩ := d2
    omega
  omega
end
end Nt

set_option Elab.async false
set_option linter.all false
/-! orders and primes: there is one of each -/
namespace Nt
theorem asc_uniq : ∀ {ps qs : List Nat}, ps.Pairwise (· < ·) → qs.Pairwise (· < ·) → (∀ p, p ∈ ps ↔ p ∈ qs) → ps = qs
  | [], [], _, _, _ => rfl
  | [], q :: qs, _, _, h => absurd ((h q).mpr (by simp)) (by simp)
  | p :: ps, [], _, _, h => absurd ((h p).mp (by simp)) (by simp)
  | p :: ps, q :: qs, h1, h2, h => by
    obtain ⟨a1, a2⟩ := List.pairwise_cons.mp h1
    obtain ⟨b1, b2⟩ := List.pairwise_cons.mp h2
    have e : p = q := by
      have m1 := (h p).mp (by simp)
      have m2 := (h q).mpr (by simp)
      rcases List.mem_cons.mp m1 with z | z
      · exact z
      · rcases List.mem_cons.mp m2 with w | w
        · exact w.symm
        · have := a1 _ w; have := b1 _ z; omega
    subst e
    rw [asc_uniq a2 b2 fun x => ⟨fun m => ?_, fun m => ?_⟩]
    · rcases List.mem_cons.mp ((h x).mp (by simp [m])) with z | z
      · have := a1 _ m; omega
      · exact z
    · rcases List.mem_cons.mp ((h x).mpr (by simp [m])) with z | z
      · have := b1 _ m; omega
      · exact z
theorem PL.uniq {n : Nat} {ps qs : List Nat} (h : PL n ps) (k : PL n qs) : ps = qs :=
  asc_uniq h.asc k.asc fun p => ⟨fun m => k.all p (h.pr p m).1 (h.pr p m).2, fun m => h.all p (k.pr p m).1 (k.pr p m).2⟩
theorem asc_range : ∀ n s : Nat, (List.range' s n).Pairwise (· < ·)
  | 0, _ => .nil
  | n + 1, s => by
    rw [List.range'_succ]
    refine List.pairwise_cons.mpr ⟨fun x hx => ?_, asc_range n (s + 1)⟩
    have := List.mem_range'_1.mp hx
    omega
open Classical in
theorem PL.ex {n : Nat} (hn : 0 < n) : ∃ ps, PL n ps := by
  refine ⟨(List.range' 0 (n + 1)).filter fun p => decide (Pri p ∧ p ∣ n), fun p hp => ?_, fun p h1 h2 => ?_, (asc_range _ _).filter _⟩
  · have := (List.mem_filter.mp hp).2
    exact of_decide_eq_true this
  · refine List.mem_filter.mpr ⟨List.mem_range'_1.mpr ⟨Nat.zero_le _, ?_⟩, decide_eq_true ⟨h1, h2⟩⟩
    have := Nat.le_of_dvd hn h2
    omega
theorem Ord.uniq {b : Int} {m o o' : Nat} (h : Ord b m o) (k : Ord b m o') : o = o' :=
  Nat.dvd_antisymm (h.dvd k.one) (k.dvd h.one)
theorem least (P : Nat → Prop) : ∀ n, P n → ∃ k, k ≤ n ∧ P k ∧ ∀ j, j < k → ¬ P j := by
  intro n
  induction n using Nat.strongRecOn with
  | _ n ih =>
    intro h
    by_cases z : ∃ j, j < n ∧ P j
    · obtain ⟨j, hj, pj⟩ := z
      obtain ⟨k, h1, h2⟩ := ih j hj pj
      exact ⟨k, by omega, h2⟩
    · exact ⟨n, Nat.le_refl _, h, fun j hj pj => z ⟨j, hj, pj⟩⟩
theorem Ord.ex {b : Int} {m : Nat} (hm : 0 < m) (hg : Nat.gcd (b % (m : Int)).toNat m = 1) : ∃ o, Ord b m o ∧ o ≤ m := by
  obtain ⟨ps, pl⟩ := PL.ex hm
  obtain ⟨d, t0⟩ := euler pl hm (cop_of hg hm)
  have tl := tot_le ps m fun p hp => (pl.le hm p hp).1
  obtain ⟨o, ho, ⟨o0, oo⟩, low⟩ := least (fun k => 0 < k ∧ (m : Int) ∣ b ^ k - 1) (tot m ps) ⟨t0, d⟩
  refine ⟨o, ⟨o0, oo, fun p pp pd z => ?_⟩, by omega⟩
  have p2 := pp.1
  have le := Nat.le_of_dvd o0 pd
  have lt : o / p < o := Nat.div_lt_self o0 p2
  exact low _ lt ⟨Nat.div_pos le (by omega), z⟩
/-- the loop that finds the order -/
theorem Ord.first {b : Int} {m o k : Nat} (h : Ord b m o) (k0 : 0 < k) (kl : k ≤ o) : b ^ k % (m : Int) = 1 % (m : Int) ↔ k = o := by
  rw [Int.emod_eq_emod_iff_emod_sub_eq_zero]
  constructor
  · intro z
    have := Nat.le_of_dvd k0 (h.dvd (Int.dvd_of_emod_eq_zero z))
    omega
  · rintro rfl
    exact Int.emod_eq_zero_of_dvd h.one
theorem pow_next (b m : Int) (k : Nat) : b ^ k % m * b % m = b ^ (k + 1) % m := by
  rw [Int.pow_succ, emod_mul_left]
/-! primes by trial -/
theorem Pri.sq {n d : Nat} (hn : 2 ≤ n) (h : ∀ q, 2 ≤ q → q < d → ¬ q ∣ n) (l : n < d * d) : Pri n := by
  refine ⟨hn, fun q hq => ?_⟩
  obtain ⟨c, hc⟩ := hq
  rcases Nat.lt_or_ge q 2 with z | z
  · have : q = 0 ∨ q = 1 := by omega
    rcases this with z | z
    · rw [z, Nat.zero_mul] at hc; omega
    · exact .inl z
  · rcases Nat.lt_or_ge q d with w | w
    · exact absurd ⟨c, hc⟩ (h q z w)
    · have cd : c < d := by
        rcases Nat.lt_or_ge c d with v | v
        · exact v
        · have := Nat.mul_le_mul w v; omega
      rcases Nat.lt_or_ge c 2 with v | v
      · have : c = 0 ∨ c = 1 := by omega
        rcases this with e | e
        · rw [e, Nat.mul_zero] at hc; omega
        · rw [e, Nat.mul_one] at hc; exact .inr hc.symm
      · exact absurd ⟨q, by rw [hc, Nat.mul_comm]⟩ (h c v cd)
theorem Pri.no {n d : Nat} (h2 : 2 ≤ d) (hl : d < n) (hd : d ∣ n) : ¬ Pri n := fun h => by
  rcases h.2 d hd with e | e <;> omega
theorem Pri.all {n : Nat} (hn : 2 ≤ n) (h : ∀ q, 2 ≤ q → q < n → ¬ q ∣ n) : Pri n := by
  refine Pri.sq hn h ?_
  have := Nat.mul_le_mul hn (Nat.le_refl n)
  omega
/-- the primes found among 2 .. d - 1 -/
structure PU (n : Nat) (ps : List Nat) (d : Nat) : Prop where
  mem : ∀ p, p ∈ ps ↔ Pri p ∧ p ∣ n ∧ p < d
  asc : ps.Pairwise (· < ·)
  len : ps.length ≤ d
theorem PU.start (n : Nat) : PU n [] 2 := ⟨fun p => by
  constructor
  · intro h; simp at h
  · rintro ⟨h, _, l⟩; have := h.1; omega, .nil, by simp⟩
theorem PU.yes {n d : Nat} {ps : List Nat} (h : PU n ps d) (hp : Pri d) (hd : d ∣ n) : PU n (ps ++ [d]) (d + 1) := by
  refine ⟨fun p => ?_, List.pairwise_append.mpr ⟨h.asc, List.pairwise_singleton _ _, fun a ha b hb => ?_⟩, by rw [List.length_append]; have := h.len; show _ + 1 ≤ _; omega⟩
  · rw [List.mem_append, List.mem_singleton, h.mem p]
    constructor
    · rintro (⟨a, b, c⟩ | rfl)
      · exact ⟨a, b, by omega⟩
      · exact ⟨hp, hd, by omega⟩
    · rintro ⟨a, b, c⟩
      rcases Nat.lt_or_ge p d with z | z
      · exact .inl ⟨a, b, z⟩
      · exact .inr (by omega)
  · rw [List.mem_singleton.mp hb]
    exact ((h.mem a).mp ha).2.2
theorem PU.no {n d : Nat} {ps : List Nat} (h : PU n ps d) (hp : ¬ (Pri d ∧ d ∣ n)) : PU n ps (d + 1) := by
  refine ⟨fun p => ?_, h.asc, by have := h.len; omega⟩
  rw [h.mem p]
  constructor
  · rintro ⟨a, b, c⟩; exact ⟨a, b, by omega⟩
  · rintro ⟨a, b, c⟩
    refine ⟨a, b, ?_⟩
    rcases Nat.lt_or_ge p d with z | z
    · exact z
    · have : p = d := by omega
      subst this
      exact absurd ⟨a, b⟩ hp
theorem PU.fin {n : Nat} {ps : List Nat} (hn : 0 < n) (h : PU n ps (n + 1)) : PL n ps :=
  ⟨fun p m => let ⟨a, b, _⟩ := (h.mem p).mp m; ⟨a, b⟩, fun p a b => (h.mem p).mpr ⟨a, b, by have := Nat.le_of_dvd hn b; omega⟩, h.asc⟩
theorem PL.len {n : Nat} {ps : List Nat} (hn : 0 < n) (h : PL n ps) : ps.length ≤ n + 1 := by
  have : PU n ps (n + 1) := ⟨fun p => ⟨fun m => ⟨(h.pr p m).1, (h.pr p m).2, by have := (h.le hn p m).2; omega⟩, fun ⟨a, b, _⟩ => h.all p a b⟩, h.asc, ?_⟩
  · exact this.len
  · have sub : ∀ (k : Nat) (l : List Nat), l.Pairwise (· < ·) → (∀ x ∈ l, x < k) → l.length ≤ k := by
      intro k
      induction k with
      | zero => intro l _ hl; cases l with
        | nil => exact Nat.le_refl _
        | cons x r => exact absurd (hl x (by simp)) (by omega)
      | succ k ih =>
        intro l ha hl
        rcases List.eq_nil_or_concat l with e | ⟨r, x, e⟩
        · rw [e]; simp
        · rw [List.concat_eq_append] at e
          subst e
          obtain ⟨a1, _, a3⟩ := List.pairwise_append.mp ha
          have := ih r a1 fun y hy => by
            have h1 := a3 y hy x (by simp)
            have h2 := hl x (by simp)
            omega
          rw [List.length_append]
          show r.length + 1 ≤ k + 1
          omega
    exact sub (n + 1) ps h.asc fun x hx => by have := (h.le hn x hx).2; omega
end Nt

set_option Elab.async false
set_option linter.all false
/-! the return of a permuted line -/
namespace Nt
theorem iter_add (g : Int → Int) : ∀ (a b : Nat) (x : Int), iter g (a + b) x = iter g a (iter g b x)
  | 0, b, x => by rw [Nat.zero_add]; rfl
  | a + 1, b, x => by
    rw [show a + 1 + b = (a + b) + 1 by omega]
    show g (iter g (a + b) x) = g (iter g a (iter g b x))
    rw [iter_add g a b x]
theorem iter_mul {g : Int → Int} {L : Nat} {x : Int} (h : iter g L x = x) : ∀ q, iter g (L * q) x = x
  | 0 => rfl
  | q + 1 => by rw [Nat.mul_succ, iter_add, h, iter_mul h q]
theorem iter_mod {g : Int → Int} {L o : Nat} {x : Int} (h : iter g L x = x) (k : iter g o x = x) : iter g (o % L) x = x := by
  have e : o = o % L + L * (o / L) := by have := Nat.mod_add_div o L; omega
  rw [e, iter_add, iter_mul h] at k
  exact k
/-- the steps on the numbers 0 .. N - 1 come back behind o, and somewhere not before -/
structure Sys (g : Int → Int) (N : Int) (o : Nat) : Prop where
  cl : ∀ n, 0 ≤ n → n < N → 0 ≤ g n ∧ g n < N
  pos : 0 < o
  home : ∀ n, 0 ≤ n → n < N → iter g o n = n
  far : ∃ n0, 0 ≤ n0 ∧ n0 < N ∧ ∀ t, iter g t n0 = n0 → o ∣ t
theorem Sys.it {g : Int → Int} {N : Int} {o : Nat} (s : Sys g N o) {n : Int} (h0 : 0 ≤ n) (h1 : n < N) : ∀ t, 0 ≤ iter g t n ∧ iter g t n < N
  | 0 => ⟨h0, h1⟩
  | t + 1 => s.cl _ (s.it h0 h1 t).1 (s.it h0 h1 t).2
/-- a first coming back divides o -/
theorem Sys.loop {g : Int → Int} {N : Int} {o L : Nat} (s : Sys g N o) {n : Int} (h0 : 0 ≤ n) (h1 : n < N) (l0 : 0 < L) (hL : iter g L n = n) (low : ∀ i, 0 < i → i < L → iter g i n ≠ n) : L ∣ o := by
  have z := iter_mod hL (s.home n h0 h1)
  by_cases e : o % L = 0
  · exact Nat.dvd_of_mod_eq_zero e
  · exact absurd z (low _ (by omega) (Nat.mod_lt _ l0))
/-- multiplying by f modulo m -/
structure Mul (g : Int → Int) (b f : Int) (m : Nat) : Prop where
  mp : 0 < m
  eq : ∀ x : Int, 0 ≤ x → x < (m : Int) → g x = x * f % (m : Int)
  rel : ∀ t : Nat, ((m : Int) ∣ f ^ t - 1) ↔ ((m : Int) ∣ b ^ t - 1)
theorem Mul.it {g : Int → Int} {b f : Int} {m : Nat} (s : Mul g b f m) {x : Int} (h0 : 0 ≤ x) (h1 : x < m) (t : Nat) : iter g t x = x * f ^ t % m :=
  iter_pow (m := (m : Int)) s.eq (by have := s.mp; omega) h0 h1 t
theorem Mul.home {g : Int → Int} {b f : Int} {m o : Nat} (s : Mul g b f m) (od : Ord b m o) {x : Int} (h0 : 0 ≤ x) (h1 : x < m) : iter g o x = x := by
  rw [s.it h0 h1]
  have d := (s.rel o).mpr od.one
  have e : x * f ^ o % (m : Int) = x % (m : Int) := by
    rw [Int.emod_eq_emod_iff_emod_sub_eq_zero]
    refine Int.emod_eq_zero_of_dvd ?_
    have : x * f ^ o - x = x * (f ^ o - 1) := by rw [Int.mul_sub, Int.mul_one]
    rw [this]
    exact Int.dvd_mul_of_dvd_right d
  rw [e, Int.emod_eq_of_lt h0 h1]
theorem Mul.far {g : Int → Int} {b f : Int} {m o : Nat} (s : Mul g b f m) (od : Ord b m o) (m1 : 1 < m) {t : Nat} (h : iter g t 1 = 1) : o ∣ t := by
  rw [s.it (by decide) (by omega), Int.one_mul] at h
  refine od.dvd ((s.rel t).mp ?_)
  have : f ^ t % (m : Int) = 1 % (m : Int) := by rw [h, Int.emod_eq_of_lt (by decide) (by omega)]
  exact Int.dvd_of_emod_eq_zero (Int.emod_eq_emod_iff_emod_sub_eq_zero.mp this)
theorem pow_inv {b f : Int} {m : Nat} (h : b * f % (m : Int) = 1 % (m : Int)) (t : Nat) : ((m : Int) ∣ f ^ t - 1) ↔ ((m : Int) ∣ b ^ t - 1) := by
  have d : (m : Int) ∣ (b * f) ^ t - 1 := by
    have := pow_sub_dvd (Int.dvd_of_emod_eq_zero (Int.emod_eq_emod_iff_emod_sub_eq_zero.mp h)) t
    rwa [Int.one_pow] at this
  have e1 : (b * f) ^ t - 1 = b ^ t * (f ^ t - 1) + (b ^ t - 1) := by
    rw [Int.mul_pow, Int.mul_sub, Int.mul_one]; omega
  have e2 : (b * f) ^ t - 1 = f ^ t * (b ^ t - 1) + (f ^ t - 1) := by
    rw [Int.mul_pow, Int.mul_sub, Int.mul_one, Int.mul_comm (b ^ t)]; omega
  constructor
  · intro z
    rw [e1] at d
    have := Int.dvd_sub d (Int.dvd_mul_of_dvd_right (b := b ^ t) z)
    rwa [Int.add_comm, Int.add_sub_cancel] at this
  · intro z
    rw [e2] at d
    have := Int.dvd_sub d (Int.dvd_mul_of_dvd_right (b := f ^ t) z)
    rwa [Int.add_comm, Int.add_sub_cancel] at this
theorem pow_self {b : Int} {m : Nat} (t : Nat) : ((m : Int) ∣ (b % (m : Int)) ^ t - 1) ↔ ((m : Int) ∣ b ^ t - 1) := by
  have e := pow_rest b (m : Int) t
  constructor
  · intro z
    have := Int.emod_eq_emod_iff_emod_sub_eq_zero.mpr (Int.emod_eq_zero_of_dvd z)
    rw [e] at this
    exact Int.dvd_of_emod_eq_zero (Int.emod_eq_emod_iff_emod_sub_eq_zero.mp this)
  · intro z
    have := Int.emod_eq_emod_iff_emod_sub_eq_zero.mpr (Int.emod_eq_zero_of_dvd z)
    rw [← e] at this
    exact Int.dvd_of_emod_eq_zero (Int.emod_eq_emod_iff_emod_sub_eq_zero.mp this)
theorem Ord.m1 {b : Int} {o : Nat} (h : Ord b 1 o) : o = 1 := by
  have := h.pos
  by_cases e : o = 1
  · exact e
  · obtain ⟨p, pp, pd⟩ := exists_pri o (by omega)
    exact absurd (Int.one_dvd _) (h.low p pp pd)
theorem Sys.of_mul {g : Int → Int} {b f N : Int} {m o : Nat} (s : Mul g b f m) (od : Ord b m o) (hN : (m : Int) ≤ N) (cl : ∀ n, 0 ≤ n → n < N → 0 ≤ g n ∧ g n < N) (fix : ∀ n, (m : Int) ≤ n → n < N → g n = n) : Sys g N o := by
  have mp := s.mp
  refine ⟨cl, od.pos, fun n h0 h1 => ?_, ?_⟩
  · by_cases z : n < (m : Int)
    · exact s.home od h0 z
    · exact iter_fix (fix n (by omega) h1) o
  · by_cases e : m = 1
    · subst e
      exact ⟨0, by omega, by omega, fun t _ => by rw [od.m1]; exact Nat.one_dvd t⟩
    · exact ⟨1, by omega, by omega, fun t h => s.far od (by omega) h⟩
theorem sys_hl {F R : Int} {m o : Nat} (hF : 2 ≤ F) (hR : 1 ≤ R) (hm : lst F R = m) (od : Ord F m o) : Sys (hl F R) (F * R) o := by
  have lp := lst_pos hF hR
  have el : F * R = (m : Int) + 1 := by unfold lst at hm; omega
  refine Sys.of_mul (b := F) (f := F % (m : Int)) (m := m) ⟨by omega, fun x h0 h1 => ?_, pow_self⟩ od (by omega) (fun n h0 h1 => ?_) fun n h0 h1 => ?_
  · rw [← hm] at h1 ⊢
    exact hl_mul hF hR h0 h1
  · have := hl_ok hF hR h0 (show n ≤ lst F R by omega)
    omega
  · have e : n = lst F R := by omega
    have := (hl_ok hF hR (show 0 ≤ n by omega) (show n ≤ lst F R by omega)).2.2.2.2.2.mpr e
    rw [this, e]
theorem sys_pr {F R : Int} {m o : Nat} (hF : 2 ≤ F) (hR : 1 ≤ R) (hm : lst F R = m) (od : Ord F m o) : Sys (pr F R) (F * R) o := by
  have lp := lst_pos hF hR
  have el : F * R = (m : Int) + 1 := by unfold lst at hm; omega
  have hf : F * R % (m : Int) = 1 % (m : Int) := by rw [el, Int.add_comm, Int.add_emod_right]
  refine Sys.of_mul (b := F) (f := R) (m := m) ⟨by omega, fun x h0 h1 => ?_, pow_inv hf⟩ od (by omega) (fun n h0 h1 => ?_) fun n h0 h1 => ?_
  · rw [← hm] at h1 hf ⊢
    exact pr_mul hF hR hf h0 h1
  · have := pr_ok hF hR h0 (show n ≤ lst F R by omega)
    omega
  · have e : n = lst F R := by omega
    have := (pr_ok hF hR (show 0 ≤ n by omega) (show n ≤ lst F R by omega)).2.2.2.mpr e
    rw [this, e]
theorem sys_oth {R : Int} {m o : Nat} (hR : 1 ≤ R) (hm : Md R = m) (od : Ord 2 m o) : Sys (oth R) R o := by
  have mp := Md_pos (rows := R) (by omega)
  have ml : Md R ≤ R := by unfold Md; omega
  have hf : 2 * ((Md R + 1) / 2) % Md R = 1 % Md R := by
    have : 2 * ((Md R + 1) / 2) = 1 + Md R := by unfold Md; omega
    rw [this, Int.add_emod_right]
  refine Sys.of_mul (b := 2) (f := (Md R + 1) / 2) (m := m) ⟨by omega, fun x h0 h1 => ?_, pow_inv (by rw [← hm]; exact hf)⟩ od (by omega) (fun n h0 h1 => ?_) fun n h0 h1 => ?_
  · rw [← hm] at h1 ⊢
    exact oth_mul hf h0 h1
  · have := oth_ok h0 h1
    omega
  · have e : n = Md R := by unfold Md at *; omega
    rw [e]
    exact oth_last (by omega) (by omega)
theorem sys_fil {R : Int} {m o : Nat} (hR : 1 ≤ R) (hm : Md R = m) (od : Ord 2 m o) : Sys (fil R) R o := by
  have mp := Md_pos (rows := R) (by omega)
  have ml : Md R ≤ R := by unfold Md; omega
  refine Sys.of_mul (b := 2) (f := 2 % (m : Int)) (m := m) ⟨by omega, fun x h0 h1 => ?_, pow_self⟩ od (by omega) (fun n h0 h1 => ?_) fun n h0 h1 => ?_
  · rw [← hm] at h1 ⊢
    exact fil_mul h0 h1
  · have := fil_ok h0 h1
    omega
  · have e : n = Md R := by unfold Md at *; omega
    rw [e]
    exact fil_last (by omega) (by omega)
def lft (F : Int) (g : Int → Int) (n : Int) : Int := g (n / F) * F + n % F
theorem lift_dm {F c r : Int} (hF : 0 < F) (h0 : 0 ≤ c) (h1 : c < F) : (r * F + c) / F = r ∧ (r * F + c) % F = c := by
  constructor
  · rw [Int.add_comm, Int.add_mul_ediv_right _ _ (by omega), Int.ediv_eq_zero_of_lt h0 h1, Int.zero_add]
  · rw [Int.add_comm, Int.add_mul_emod_self_right, Int.emod_eq_of_lt h0 h1]
theorem lift_it {F : Int} {g : Int → Int} (hF : 0 < F) (n : Int) : ∀ t, iter (lft F g) t n = iter g t (n / F) * F + n % F
  | 0 => by
    show n = n / F * F + n % F
    have := Int.mul_ediv_add_emod n F
    rw [Int.mul_comm] at this
    omega
  | t + 1 => by
    show lft F g (iter (lft F g) t n) = g (iter g t (n / F)) * F + n % F
    rw [lift_it hF n t]
    unfold lft
    obtain ⟨a, b⟩ := lift_dm (r := iter g t (n / F)) hF (Int.emod_nonneg n (by omega)) (Int.emod_lt_of_pos n hF)
    rw [a, b]
theorem Sys.lift {g : Int → Int} {R F : Int} {o : Nat} (s : Sys g R o) (hF : 0 < F) : Sys (lft F g) (F * R) o := by
  have rng : ∀ n, 0 ≤ n → n < F * R → 0 ≤ n / F ∧ n / F < R ∧ 0 ≤ n % F ∧ n % F < F := fun n h0 h1 =>
    let ⟨a, b, c, d, _⟩ := div_lt hF h0 (show n ≤ F * R - 1 by omega); ⟨a, b, c, d⟩
  refine ⟨fun n h0 h1 => ?_, s.pos, fun n h0 h1 => ?_, ?_⟩
  · obtain ⟨a, b, c, d⟩ := rng n h0 h1
    obtain ⟨u, v⟩ := s.cl _ a b
    have := num_lt (F := F) (R := R) hF u v c d
    unfold lst at this
    show 0 ≤ g (n / F) * F + n % F ∧ g (n / F) * F + n % F < F * R
    omega
  · obtain ⟨a, b, c, d⟩ := rng n h0 h1
    rw [lift_it hF, s.home _ a b]
    have := Int.mul_ediv_add_emod n F
    rw [Int.mul_comm] at this
    exact this
  · obtain ⟨n0, a, b, far⟩ := s.far
    have := num_lt (F := F) (R := R) (q := n0) (r := 0) hF a b (Int.le_refl _) hF
    unfold lst at this
    refine ⟨n0 * F, by omega, by omega, fun t h => far t ?_⟩
    obtain ⟨u, v⟩ := lift_dm (F := F) (c := 0) (r := n0) hF (Int.le_refl _) hF
    rw [Int.add_zero] at u v
    rw [lift_it hF, u, v, Int.add_zero] at h
    exact Int.eq_of_mul_eq_mul_right (by omega) h
/-! loops gone through, lengths put together -/
structure RSt (g : Int → Int) (N : Int) (o : Nat) (lens ks : List Nat) (upto : Int) : Prop where
  dv : ∀ l ∈ lens, 0 < l ∧ l ∣ o
  nd : ks.Nodup
  lt : ∀ x ∈ ks, (x : Int) < N
  bk : ∀ x ∈ ks, ∃ l ∈ lens, iter g l x = x
  up : ∀ x : Nat, (x : Int) < upto → x ∈ ks
theorem lcm_all {o : Nat} (h0 : 0 < o) : ∀ (lens : List Nat) (f : Nat), 0 < f → f ∣ o → (∀ l ∈ lens, 0 < l ∧ l ∣ o) → (o = f ∨ o ∈ lens) → lens.foldl Nat.lcm f = o
  | [], f, f0, fd, _, h => by
    rcases h with h | h
    · exact h.symm
    · simp at h
  | l :: lens, f, f0, fd, hl, h => by
    obtain ⟨l0, ld⟩ := hl l (by simp)
    have d : Nat.lcm f l ∣ o := Nat.lcm_dvd fd ld
    refine lcm_all h0 lens (Nat.lcm f l) (Nat.lcm_pos f0 l0) d (fun x hx => hl x (by simp [hx])) ?_
    rcases h with h | h
    · left
      subst h
      exact Nat.dvd_antisymm (Nat.dvd_lcm_left o l) d
    · rcases List.mem_cons.mp h with h | h
      · left
        subst h
        exact Nat.dvd_antisymm (Nat.dvd_lcm_right f o) d
      · exact .inr h
theorem RSt.fin {g : Int → Int} {N : Int} {o : Nat} {lens ks : List Nat} (s : Sys g N o) (h : RSt g N o lens ks N) : lens.foldl Nat.lcm 1 = o := by
  obtain ⟨n0, a, b, far⟩ := s.far
  refine lcm_all s.pos lens 1 (by decide) (Nat.one_dvd o) h.dv (.inr ?_)
  have m := h.up n0.toNat (by omega)
  obtain ⟨l, hl, e⟩ := h.bk _ m
  rw [Int.toNat_of_nonneg a] at e
  obtain ⟨l0, ld⟩ := h.dv l hl
  have := Nat.dvd_antisymm (far l e) ld
  rw [this]
  exact hl
theorem gcd2 {R : Int} {m : Nat} (hR : 1 ≤ R) (hm : Md R = m) : Nat.gcd (2 % (m : Int)).toNat m = 1 := by
  have mp := Md_pos (rows := R) (by omega)
  have odd : m % 2 = 1 := by unfold Md at hm; omega
  have d1 := Nat.gcd_dvd_left (2 % (m : Int)).toNat m
  have d2 := Nat.gcd_dvd_right (2 % (m : Int)).toNat m
  by_cases e : m = 1
  · subst e; rfl
  · have m3 : 3 ≤ m := by omega
    have e2 : (2 % (m : Int)).toNat = 2 := by rw [Int.emod_eq_of_lt (by decide) (by omega)]; rfl
    rw [e2] at d1 d2 ⊢
    have le := Nat.le_of_dvd (by decide) d1
    have c : Nat.gcd 2 m = 0 ∨ Nat.gcd 2 m = 1 ∨ Nat.gcd 2 m = 2 := by omega
    rcases c with c | c | c
    · rw [c] at d1; obtain ⟨x, hx⟩ := d1; omega
    · exact c
    · rw [c] at d2; obtain ⟨x, hx⟩ := d2; omega
end Nt

set_option Elab.async false
set_option linter.all false
set_option maxRecDepth 100000
set_option maxHeartbeats 8000000
namespace My
open PySem PySem.Spec PyProof.Rows L2 Sx
local macro_rules | `(tactic| walk_at "nb") => `(tactic| first | exact NB.tup | exact NB.ints | exact NB.len (of_decide_eq_true rfl) | exact NB.at0b rfl | exact NB.at3b rfl | exact NB.ins | exact NB.own | exact NB.frz | exact NB.refs (by assumption) | assumption)
local macro_rules | `(tactic| walk_at "ne") => `(tactic| first | assumption | exact Ne.symm (by assumption) | exact ne_of_none (by assumption) (by assumption) | exact Ne.symm (ne_of_none (by assumption) (by assumption)))
local macro_rules | `(tactic| walk_at "hk") => `(tactic| first
  | assumption
  | exact upd_same
  | (refine' (upd_ne ?hkne).trans ?hkq; (case hkne => walk_at "ne"); (case hkq => walk_at "hk"))
  | (refine' Ex.kp (by assumption) _ _ ?hkq ?hkn; (case hkq => walk_at "hk"); (case hkn => walk_at "nb")))
local macro_rules | `(tactic| walk_at "rd1") => `(tactic| first
  | ((with_reducible refine' x_var ?hx ?_); (case hx => exact rfl))
  | with_reducible refine x_c ?_
  | with_reducible refine x_op ?_
  | with_reducible refine x_un ?_
  | with_reducible refine x_I0 ?_
  | with_reducible refine x_U ?_
  | ((with_reducible refine x_I ?hc ?_); (case hc => first | exact (by decide : (0 : Int) < _) | (show (0 : Int) < _; omega) | (show CMul _ _; first | exact .inl ⟨by omega, by omega⟩ | exact .inr ⟨by omega, by omega⟩) | (show CDiv _ _; exact ⟨by omega, by omega⟩) | (show CDivW _ _; exact wide_div (b := 200) (by omega) (by assumption) (by decide) (by decide)) | (show CDivW _ _; exact wide_div (b := 31) (by omega) (by omega) (by decide) (by decide))))
  | with_reducible refine x_EqI ?_
  | with_reducible refine x_NeI ?_
  | ((with_reducible refine x_EqSt ?h ?_); (case h => decide +kernel))
  | ((with_reducible refine x_EqSf ?h ?_); (case h => decide +kernel))
  | ((with_reducible refine x_NeSt ?h ?_); (case h => decide +kernel))
  | ((with_reducible refine x_NeSf ?h ?_); (case h => decide +kernel))
  | with_reducible refine x_EqS ?_
  | with_reducible refine x_NeS ?_
  | ((with_reducible refine' x_ixL ?hq ?hi ?_); (case hq => walk_at "hk"); (case hi => first | exact rfl | assumption))
  | ((with_reducible refine' x_ixT ?hq ?hi ?_); (case hq => walk_at "hk"); (case hi => first | exact rfl | assumption))
  | with_reducible refine x_chain ?_
  | with_reducible refine x_tup ?_
  | with_reducible refine x_lst ?_
  | ((with_reducible refine x_lenNew ?hl ?_); (case hl => exact Nat.le_of_ble_eq_true rfl); intro _ _ _ _ _)
  | ((with_reducible refine x_new ?_); intro _ _ _ _ _)
  | with_reducible refine x_sl ?_
  | with_reducible refine x_noPart ?_
  | with_reducible refine x_part ?_
  | with_reducible refine x_ex_int ?_
  | with_reducible refine x_ex_bl ?_
  | with_reducible refine x_ex_2 ?_
  | with_reducible refine x_test ?_
  | with_reducible refine x_B ?_
  | with_reducible refine x_and ?_
  | with_reducible refine x_or ?_
  | with_reducible refine x_not ?_
  | with_reducible refine x_andV ?_
  | with_reducible refine x_orV ?_
  | with_reducible refine x_notV ?_
  | with_reducible refine x_ifE ?_
  | with_reducible refine x_iteT ?_
  | with_reducible refine x_iteF ?_
  | ((with_reducible refine x_iteD ?_ ?_) <;> intro _)
  | ((with_reducible refine x_iteN ?_ ?_) <;> intro _)
  | with_reducible refine x_if ?_
  | with_reducible refine x_seq ?_
  | with_reducible refine x_next ?_
  | with_reducible refine x_asg ?_
  | with_reducible refine x_gName ?_
  | ((with_reducible refine' x_gTup ?hq ?hn ?_); (case hq => walk_at "hk"); (case hn => exact rfl))
  | with_reducible refine x_gCons ?_
  | with_reducible refine x_gNil ?_
  | ((with_reducible refine' x_gConsE ?h ?_); (case h => exact rfl))
  | ((with_reducible refine x_gNilE ?h ?_); (case h => exact rfl))
  | with_reducible refine x_ret ?_
  | with_reducible refine x_drop ?_
  | with_reducible refine x_par ?_
  | ((with_reducible refine' x_aug ?hx ?_); (case hx => exact rfl))
  | with_reducible refine x_ipI ?_
  | with_reducible refine x_augS ?_
  | with_reducible refine x_gSub ?_
  | ((with_reducible refine' x_setL ?hq ?hi ?_); (case hq => walk_at "hk"); (case hi => first | exact rfl | assumption))
  | with_reducible refine x_cons ?_
  | with_reducible refine x_nil ?_
  | with_reducible refine x_CB ?_
  | with_reducible refine x_abs ?_
  | with_reducible refine x_intI ?_
  | with_reducible refine x_intB ?_
  | ((with_reducible refine' x_lenL ?hq ?_); (case hq => walk_at "hk"))
  | ((with_reducible refine' x_lenT ?hq ?_); (case hq => walk_at "hk"))
  | ((with_reducible refine x_iteTe ?h ?_); (case h => exact rfl))
  | ((with_reducible refine x_iteFe ?h ?_); (case h => exact rfl))
  | walk_at "use"
  | with_reducible refine x_callS ?_
  | ((with_reducible refine x_lc ?_))
  | ((with_reducible refine x_for ?_))
  | ((with_reducible refine x_iR1 ?_))
  | ((with_reducible refine x_iL ?_))
  | ((with_reducible refine x_iZ ?_))
  | ((with_reducible refine x_yes ?_))
  | ((with_reducible refine' x_NIDt ?hq ?_); (case hq => assumption))
  | ((with_reducible refine' x_NIDf ?hq ?_); (case hq => assumption))
  | ((with_reducible refine' x_IIDf ?hq ?_); (case hq => assumption))
  | ((with_reducible refine' x_IIDt ?hq ?_); (case hq => assumption))
  | ((with_reducible refine' x_ixDs ?hd ?hq ?_); (case hd => assumption); (case hq => assumption))
  | ((with_reducible refine x_InSt ?h ?_); (case h => decide +kernel))
  | ((with_reducible refine x_InSf ?h ?_); (case h => decide +kernel))
  | ((with_reducible refine' x_notInI ?hq ?_); (case hq => walk_at "hk"))
  | ((with_reducible refine' x_inTt ?hq ?hv ?ha ?he ?_); (case hq => walk_at "hk"); (case hv => exact rfl); (case ha => exact rfl); (case he => decide +kernel))
  | ((with_reducible refine' x_inTf ?hq ?hv ?ha ?he ?_); (case hq => walk_at "hk"); (case hv => exact rfl); (case ha => exact rfl); (case he => decide +kernel))
  | ((with_reducible refine' x_slT ?hq ?hw ?_); (case hq => walk_at "hk"); (case hw => with_unfolding_all exact of_decide_eq_true rfl))
  | ((with_reducible refine' x_slL ?hq ?_); (case hq => walk_at "hk"))
  | ((with_reducible refine' x_catT ?hq ?hr ?n1 ?n2 ?hl ?_); (case hq => walk_at "hk"); (case hr => walk_at "hk"); (case n1 => exact List.cons_ne_nil _ _); (case n2 => exact List.cons_ne_nil _ _); (case hl => exact Nat.le_of_ble_eq_true rfl))
  | ((with_reducible refine x_bm ?_))
  | ((with_reducible refine x_lstRg ?_))
  | ((with_reducible refine x_rg1 ?_))
  | ((with_reducible refine And.intro ?h ?_); (case h => exact tyL (by assumption)))
  | dsimp only)
local macro_rules | `(tactic| walk_at "use") => `(tactic| fail)
local macro_rules | `(tactic| walk_at "rd") => `(tactic| repeat' (walk_at "rd1"))
local macro_rules | `(tactic| walk_at "ex") => `(tactic| first | exact Ex.refl _ | assumption | (refine' Ex.trans ?he (by assumption); (case he => walk_at "ex")))
local macro_rules | `(tactic| walk_at "rd1") => `(tactic| first
  | ((with_reducible refine x_iteDf ?h ?_); (case h => exact rfl))
  | ((with_reducible refine x_iteDt ?h ?_); (case h => exact rfl))
  | ((with_reducible refine x_iteNf ?h ?_); (case h => exact rfl))
  | ((with_reducible refine x_iteNt ?h ?_); (case h => exact rfl))
  | ((with_reducible refine x_isiI (r := true) ?h ?_); (case h => decide +kernel))
  | ((with_reducible refine x_isiI (r := false) ?h ?_); (case h => decide +kernel))
  | ((with_reducible refine x_isiS (r := true) ?h ?_); (case h => decide +kernel))
  | ((with_reducible refine x_isiS (r := false) ?h ?_); (case h => decide +kernel))
  | ((with_reducible refine x_isiB (r := true) ?h ?_); (case h => decide +kernel))
  | ((with_reducible refine x_isiB (r := false) ?h ?_); (case h => decide +kernel))
  | ((with_reducible refine' x_isiT (r := true) ?hp ?h ?_); (case hp => walk_at "hk"); (case h => decide +kernel))
  | ((with_reducible refine' x_isiT (r := false) ?hp ?h ?_); (case hp => walk_at "hk"); (case h => decide +kernel))
  | ((with_reducible refine' x_isiL (r := true) ?hp ?h ?_); (case hp => walk_at "hk"); (case h => decide +kernel))
  | ((with_reducible refine' x_isiL (r := false) ?hp ?h ?_); (case hp => walk_at "hk"); (case h => decide +kernel))
  | ((with_reducible refine' x_isi2L ?hp ?hl ?_); (case hp => walk_at "hk"); (case hl => walk_at "hk"))
  | ((with_reducible refine' x_isi2T ?hp ?hl ?_); (case hp => walk_at "hk"); (case hl => walk_at "hk"))
  | ((with_reducible refine' x_tupOfL ?hq ?_); (case hq => walk_at "hk"))
  | ((with_reducible refine' x_tupOfT ?hq ?_); (case hq => walk_at "hk"))
  | ((with_reducible refine x_lenS ?h ?_); (case h => exact Nat.le_of_ble_eq_true rfl))
  | ((with_reducible refine' x_all ?hq ?_); (case hq => walk_at "hk"))
  | with_reducible refine x_lenSet ?_)
local macro_rules | `(tactic| walk_at "nb") => `(tactic| first | exact NB.xd | exact NB.dK)
local macro_rules | `(tactic| walk_at "rd1") => `(tactic| first
  | with_reducible refine Er.x_par3 ?_
  | with_reducible refine Er.x_ex_3 ?_
  | with_reducible refine Er.x_revL0 ?_
  | ((with_reducible refine' Er.x_revL ?hq ?_); (case hq => walk_at "hk"))
  | with_reducible refine Er.x_dget2 ?_
  | with_reducible refine x_dict0 ?_
  | ((with_reducible refine x_pow ?hc ?_); (case hc => exact ⟨by decide, by decide, by decide⟩))
  | ((with_reducible refine And.intro ?h ?_); (case h => exact tyL (by walk_at "hk")))
  | ((with_reducible refine' Er.x_dis ?hq ?_); (case hq => walk_at "hk"))
  | ((with_reducible refine' Er.x_dgo ?hq ?he ?_); (case hq => walk_at "hk"); (case he => exact rfl)))
local macro_rules | `(tactic| walk_at "rd1") => `(tactic| first
  | with_reducible refine Er.x_callSS ?_
  | ((with_reducible refine Er.x_mulS2 ?h ?h0 ?h1 ?_); (case h => decide); (case h0 => decide); (case h1 => decide)))
local macro_rules | `(tactic| walk_at "rd1") => `(tactic| first
  | with_reducible refine Er.x_iR2 ?_
  | with_reducible refine Er.x_iEn ?_
  | with_reducible refine Er.x_cont ?_
  | ((with_reducible refine Er.x_isBt ?h ?_); (case h => exact rfl))
  | ((with_reducible refine Er.x_isBf ?h ?_); (case h => exact rfl))
  | ((with_reducible refine Er.x_isNBt ?h ?_); (case h => exact rfl))
  | ((with_reducible refine Er.x_isNBf ?h ?_); (case h => exact rfl))
  | with_reducible refine Er.x_isB ?_
  | with_reducible refine Er.x_isNB ?_)
local macro_rules | `(tactic| walk_at "nb") => `(tactic| exact NB.dT)
local macro_rules | `(tactic| walk_at "rd1") => `(tactic| first
  | with_reducible refine Er.x_dNotIn ?_
  | with_reducible refine Er.x_dPut ?_
  | with_reducible refine Er.x_dnewT ?_)

def top (i : Nat) : Stmt := PySem.Challenge.pw_pupilpairs_k85_returns_of_halved_lines.main.body.getD i (.Pass ⟨0, 0, 0, 0⟩)
abbrev s_common_divisor : Stmt := top 4
theorem sc_common_divisor : FnScope ["one", "other"] ["one", "other"] (defScope s_common_divisor) := ⟨rfl, rfl, rfl, by decide +kernel, rfl, by decide +kernel, by decide +kernel⟩
abbrev s_inverse : Stmt := top 5
theorem sc_inverse : FnScope ["number", "modulus", "near", "far", "one", "other", "times"] ["number", "modulus"] (defScope s_inverse) := ⟨rfl, rfl, rfl, by decide +kernel, rfl, by decide +kernel, by decide +kernel⟩
abbrev s_odd_of : Stmt := top 7
theorem sc_odd_of : FnScope ["rows"] ["rows"] (defScope s_odd_of) := ⟨rfl, rfl, rfl, by decide +kernel, rfl, by decide +kernel, by decide +kernel⟩
abbrev s_power : Stmt := top 8
theorem sc_power : FnScope ["base", "exponent", "modulus", "factor", "left", "told"] ["base", "exponent", "modulus"] (defScope s_power) := ⟨rfl, rfl, rfl, by decide +kernel, rfl, by decide +kernel, by decide +kernel⟩
abbrev s_order_paper : Stmt := top 10
theorem sc_order_paper : FnScope ["base", "modulus", "most", "order", "prime"] ["base", "modulus"] (defScope s_order_paper) := ⟨rfl, rfl, rfl, by decide +kernel, rfl, by decide +kernel, by decide +kernel⟩
abbrev s_halve_return : Stmt := top 11
theorem sc_halve_return : FnScope ["files", "rows"] ["files", "rows"] (defScope s_halve_return) := ⟨rfl, rfl, rfl, by decide +kernel, rfl, by decide +kernel, by decide +kernel⟩
abbrev s_others_return : Stmt := top 12
theorem sc_others_return : FnScope ["rows"] ["rows"] (defScope s_others_return) := ⟨rfl, rfl, rfl, by decide +kernel, rfl, by decide +kernel, by decide +kernel⟩
abbrev s_has_order : Stmt := top 13
theorem sc_has_order : FnScope ["base", "modulus"] ["base", "modulus"] (defScope s_has_order) := ⟨rfl, rfl, rfl, by decide +kernel, rfl, by decide +kernel, by decide +kernel⟩
abbrev s_totient : Stmt := top 14
theorem sc_totient : FnScope ["modulus", "told", "prime"] ["modulus"] (defScope s_totient) := ⟨rfl, rfl, rfl, by decide +kernel, rfl, by decide +kernel, by decide +kernel⟩
abbrev s_primes_of : Stmt := top 15
theorem sc_primes_of : FnScope ["number", "told", "left", "divisor"] ["number"] (defScope s_primes_of) := ⟨rfl, rfl, rfl, by decide +kernel, rfl, by decide +kernel, by decide +kernel⟩
abbrev s_Lbag : Stmt := top 17
theorem sc_Lbag : FnScope ["_law_script", "_law_cell"] ["_law_script"] (defScope s_Lbag) := ⟨rfl, rfl, rfl, by decide +kernel, rfl, by decide +kernel, by decide +kernel⟩
abbrev s_Ltake : Stmt := top 18
theorem sc_Ltake : FnScope ["_law_bag_here", "_law_upto", "_law_cell", "_law_mixed", "_law_drawn", "_law_begin", "_law_second"] ["_law_bag_here", "_law_upto"] (defScope s_Ltake) := ⟨rfl, rfl, rfl, by decide +kernel, rfl, by decide +kernel, by decide +kernel⟩
abbrev s_Lone : Stmt := top 19
theorem sc_Lone : FnScope ["_law_bag_here", "_law_some"] ["_law_bag_here", "_law_some"] (defScope s_Lone) := ⟨rfl, rfl, rfl, by decide +kernel, rfl, by decide +kernel, by decide +kernel⟩
abbrev s_Lalike : Stmt := top 20
theorem sc_Lalike : FnScope ["_law_found", "_law_due"] ["_law_found", "_law_due"] (defScope s_Lalike) := ⟨rfl, rfl, rfl, by decide +kernel, rfl, by decide +kernel, by decide +kernel⟩
abbrev s_Lopen : Stmt := top 21
theorem sc_Lopen : FnScope ["_law_word", "_law_files", "_law_rows", "_law_place", "_law_number", "_law_half", "_law_back", "_law_odd", "_law_late"] ["_law_word", "_law_files", "_law_rows", "_law_place"] (defScope s_Lopen) := ⟨rfl, rfl, rfl, by decide +kernel, rfl, by decide +kernel, by decide +kernel⟩
abbrev s_Lgoes : Stmt := top 22
theorem sc_Lgoes : FnScope ["_law_call", "_law_files", "_law_rows", "_law_place", "_law_word", "_law_row", "_law_file", "_law_seat"] ["_law_call", "_law_files", "_law_rows", "_law_place"] (defScope s_Lgoes) := ⟨rfl, rfl, rfl, by decide +kernel, rfl, by decide +kernel, by decide +kernel⟩
abbrev s_Lundo : Stmt := top 23
theorem sc_Lundo : FnScope ["_law_calls", "_law_words", "_law_found", "_law_call"] ["_law_calls"] (defScope s_Lundo) := ⟨rfl, rfl, rfl, by decide +kernel, rfl, by decide +kernel, by decide +kernel⟩
abbrev s_Lled : Stmt := top 24
theorem sc_Lled : FnScope ["_law_calls", "_law_files", "_law_rows", "_law_place", "_law_rounds_here", "_law_some", "_law_k", "_law_call"] ["_law_calls", "_law_files", "_law_rows", "_law_place", "_law_rounds_here"] (defScope s_Lled) := ⟨rfl, rfl, rfl, by decide +kernel, rfl, by decide +kernel, by decide +kernel⟩
abbrev s_Lrounds : Stmt := top 25
theorem sc_Lrounds : FnScope ["_law_calls", "_law_files", "_law_rows", "_law_place", "_law_found", "_law_here"] ["_law_calls", "_law_files", "_law_rows", "_law_place"] (defScope s_Lrounds) := ⟨rfl, rfl, rfl, by decide +kernel, rfl, by decide +kernel, by decide +kernel⟩
abbrev s_Ldivisor : Stmt := top 26
theorem sc_Ldivisor : FnScope ["_law_one_here", "_law_other"] ["_law_one_here", "_law_other"] (defScope s_Ldivisor) := ⟨rfl, rfl, rfl, by decide +kernel, rfl, by decide +kernel, by decide +kernel⟩
abbrev s_Lprimes : Stmt := top 27
theorem sc_Lprimes : FnScope ["_law_number", "_law_one_here"] ["_law_number"] (defScope s_Lprimes) := ⟨rfl, rfl, rfl, by decide +kernel, rfl, by decide +kernel, by decide +kernel⟩
abbrev s_Lis_prime : Stmt := top 28
theorem sc_Lis_prime : FnScope ["_law_number", "_law_one_here"] ["_law_number"] (defScope s_Lis_prime) := ⟨rfl, rfl, rfl, by decide +kernel, rfl, by decide +kernel, by decide +kernel⟩
abbrev s_Lmultiple : Stmt := top 29
theorem sc_Lmultiple : FnScope ["_law_numbers", "_law_found", "_law_number"] ["_law_numbers"] (defScope s_Lmultiple) := ⟨rfl, rfl, rfl, by decide +kernel, rfl, by decide +kernel, by decide +kernel⟩
abbrev s_Lreturn : Stmt := top 30
theorem sc_Lreturn : FnScope ["_law_call", "_law_files", "_law_rows", "_law_lengths", "_law_seen", "_law_row", "_law_file", "_law_loop", "_law_place"] ["_law_call", "_law_files", "_law_rows"] (defScope s_Lreturn) := ⟨rfl, rfl, rfl, by decide +kernel, rfl, by decide +kernel, by decide +kernel⟩
abbrev s_law : Stmt := top 31
theorem sc_law : FnScope ["_law_script", "_law_bag_here", "_law_turn", "_law_files", "_law_rows", "_law_due", "_law_again", "_law_found"] ["_law_script"] (defScope s_law) := ⟨rfl, rfl, rfl, by decide +kernel, rfl, by decide +kernel, by decide +kernel⟩
structure Ad where
  a_common_divisor : Addr
  fd_common_divisor : FuncData
  a_inverse : Addr
  fd_inverse : FuncData
  a_odd_of : Addr
  fd_odd_of : FuncData
  a_power : Addr
  fd_power : FuncData
  a_order_paper : Addr
  fd_order_paper : FuncData
  a_halve_return : Addr
  fd_halve_return : FuncData
  a_others_return : Addr
  fd_others_return : FuncData
  a_has_order : Addr
  fd_has_order : FuncData
  a_totient : Addr
  fd_totient : FuncData
  a_primes_of : Addr
  fd_primes_of : FuncData
  a_Lbag : Addr
  fd_Lbag : FuncData
  a_Ltake : Addr
  fd_Ltake : FuncData
  a_Lone : Addr
  fd_Lone : FuncData
  a_Lalike : Addr
  fd_Lalike : FuncData
  a_Lopen : Addr
  fd_Lopen : FuncData
  a_Lgoes : Addr
  fd_Lgoes : FuncData
  a_Lundo : Addr
  fd_Lundo : FuncData
  a_Lled : Addr
  fd_Lled : FuncData
  a_Lrounds : Addr
  fd_Lrounds : FuncData
  a_Ldivisor : Addr
  fd_Ldivisor : FuncData
  a_Lprimes : Addr
  fd_Lprimes : FuncData
  a_Lis_prime : Addr
  fd_Lis_prime : FuncData
  a_Lmultiple : Addr
  fd_Lmultiple : FuncData
  a_Lreturn : Addr
  fd_Lreturn : FuncData
  a_law : Addr
  fd_law : FuncData
structure Txt (K : PySem.W.Frag) (w : World) (mg : Str → Option Value) (a : Ad) : Prop where
  m_common_divisor : mg "common_divisor" = some (.ref a.a_common_divisor)
  F_common_divisor : Fun K "common_divisor" "common_divisor" s_common_divisor a.a_common_divisor a.fd_common_divisor
  k_common_divisor : PySem.W.keepIn K (.ref a.a_common_divisor) = true
  b_common_divisor : Binds K a.fd_common_divisor ["one", "other"] []
  m_inverse : mg "inverse" = some (.ref a.a_inverse)
  F_inverse : Fun K "inverse" "inverse" s_inverse a.a_inverse a.fd_inverse
  k_inverse : PySem.W.keepIn K (.ref a.a_inverse) = true
  b_inverse : Binds K a.fd_inverse ["number", "modulus"] []
  m_odd_of : mg "odd_of" = some (.ref a.a_odd_of)
  F_odd_of : Fun K "odd_of" "odd_of" s_odd_of a.a_odd_of a.fd_odd_of
  k_odd_of : PySem.W.keepIn K (.ref a.a_odd_of) = true
  b_odd_of : Binds K a.fd_odd_of ["rows"] []
  m_power : mg "power" = some (.ref a.a_power)
  F_power : Fun K "power" "power" s_power a.a_power a.fd_power
  k_power : PySem.W.keepIn K (.ref a.a_power) = true
  b_power : Binds K a.fd_power ["base", "exponent", "modulus"] []
  m_order_paper : mg "order_paper" = some (.ref a.a_order_paper)
  F_order_paper : Fun K "order_paper" "order_paper" s_order_paper a.a_order_paper a.fd_order_paper
  k_order_paper : PySem.W.keepIn K (.ref a.a_order_paper) = true
  b_order_paper : Binds K a.fd_order_paper ["base", "modulus"] []
  m_halve_return : mg "halve_return" = some (.ref a.a_halve_return)
  F_halve_return : Fun K "halve_return" "halve_return" s_halve_return a.a_halve_return a.fd_halve_return
  k_halve_return : PySem.W.keepIn K (.ref a.a_halve_return) = true
  b_halve_return : Binds K a.fd_halve_return ["files", "rows"] []
  m_others_return : mg "others_return" = some (.ref a.a_others_return)
  F_others_return : Fun K "others_return" "others_return" s_others_return a.a_others_return a.fd_others_return
  k_others_return : PySem.W.keepIn K (.ref a.a_others_return) = true
  b_others_return : Binds K a.fd_others_return ["rows"] []
  m_has_order : mg "has_order" = some (.ref a.a_has_order)
  F_has_order : Fun K "has_order" "has_order" s_has_order a.a_has_order a.fd_has_order
  k_has_order : PySem.W.keepIn K (.ref a.a_has_order) = true
  b_has_order : Binds K a.fd_has_order ["base", "modulus"] []
  m_totient : mg "totient" = some (.ref a.a_totient)
  F_totient : Fun K "totient" "totient" s_totient a.a_totient a.fd_totient
  k_totient : PySem.W.keepIn K (.ref a.a_totient) = true
  b_totient : Binds K a.fd_totient ["modulus"] []
  m_primes_of : mg "primes_of" = some (.ref a.a_primes_of)
  F_primes_of : Fun K "primes_of" "primes_of" s_primes_of a.a_primes_of a.fd_primes_of
  k_primes_of : PySem.W.keepIn K (.ref a.a_primes_of) = true
  b_primes_of : Binds K a.fd_primes_of ["number"] []
  m_Lbag : mg "_law_bag" = some (.ref a.a_Lbag)
  F_Lbag : Fun K "_law_bag" "_law_bag" s_Lbag a.a_Lbag a.fd_Lbag
  k_Lbag : PySem.W.keepIn K (.ref a.a_Lbag) = true
  b_Lbag : Binds K a.fd_Lbag ["_law_script"] []
  m_Ltake : mg "_law_take" = some (.ref a.a_Ltake)
  F_Ltake : Fun K "_law_take" "_law_take" s_Ltake a.a_Ltake a.fd_Ltake
  k_Ltake : PySem.W.keepIn K (.ref a.a_Ltake) = true
  b_Ltake : Binds K a.fd_Ltake ["_law_bag_here", "_law_upto"] []
  m_Lone : mg "_law_one" = some (.ref a.a_Lone)
  F_Lone : Fun K "_law_one" "_law_one" s_Lone a.a_Lone a.fd_Lone
  k_Lone : PySem.W.keepIn K (.ref a.a_Lone) = true
  b_Lone : Binds K a.fd_Lone ["_law_bag_here", "_law_some"] []
  m_Lalike : mg "_law_alike" = some (.ref a.a_Lalike)
  F_Lalike : Fun K "_law_alike" "_law_alike" s_Lalike a.a_Lalike a.fd_Lalike
  k_Lalike : PySem.W.keepIn K (.ref a.a_Lalike) = true
  b_Lalike : Binds K a.fd_Lalike ["_law_found", "_law_due"] []
  m_Lopen : mg "_law_open" = some (.ref a.a_Lopen)
  F_Lopen : Fun K "_law_open" "_law_open" s_Lopen a.a_Lopen a.fd_Lopen
  k_Lopen : PySem.W.keepIn K (.ref a.a_Lopen) = true
  b_Lopen : Binds K a.fd_Lopen ["_law_word", "_law_files", "_law_rows", "_law_place"] []
  m_Lgoes : mg "_law_goes" = some (.ref a.a_Lgoes)
  F_Lgoes : Fun K "_law_goes" "_law_goes" s_Lgoes a.a_Lgoes a.fd_Lgoes
  k_Lgoes : PySem.W.keepIn K (.ref a.a_Lgoes) = true
  b_Lgoes : Binds K a.fd_Lgoes ["_law_call", "_law_files", "_law_rows", "_law_place"] []
  m_Lundo : mg "_law_undo" = some (.ref a.a_Lundo)
  F_Lundo : Fun K "_law_undo" "_law_undo" s_Lundo a.a_Lundo a.fd_Lundo
  k_Lundo : PySem.W.keepIn K (.ref a.a_Lundo) = true
  b_Lundo : Binds K a.fd_Lundo ["_law_calls"] []
  m_Lled : mg "_law_led" = some (.ref a.a_Lled)
  F_Lled : Fun K "_law_led" "_law_led" s_Lled a.a_Lled a.fd_Lled
  k_Lled : PySem.W.keepIn K (.ref a.a_Lled) = true
  b_Lled : Binds K a.fd_Lled ["_law_calls", "_law_files", "_law_rows", "_law_place", "_law_rounds_here"] []
  m_Lrounds : mg "_law_rounds" = some (.ref a.a_Lrounds)
  F_Lrounds : Fun K "_law_rounds" "_law_rounds" s_Lrounds a.a_Lrounds a.fd_Lrounds
  k_Lrounds : PySem.W.keepIn K (.ref a.a_Lrounds) = true
  b_Lrounds : Binds K a.fd_Lrounds ["_law_calls", "_law_files", "_law_rows", "_law_place"] []
  m_Ldivisor : mg "_law_divisor" = some (.ref a.a_Ldivisor)
  F_Ldivisor : Fun K "_law_divisor" "_law_divisor" s_Ldivisor a.a_Ldivisor a.fd_Ldivisor
  k_Ldivisor : PySem.W.keepIn K (.ref a.a_Ldivisor) = true
  b_Ldivisor : Binds K a.fd_Ldivisor ["_law_one_here", "_law_other"] []
  m_Lprimes : mg "_law_primes" = some (.ref a.a_Lprimes)
  F_Lprimes : Fun K "_law_primes" "_law_primes" s_Lprimes a.a_Lprimes a.fd_Lprimes
  k_Lprimes : PySem.W.keepIn K (.ref a.a_Lprimes) = true
  b_Lprimes : Binds K a.fd_Lprimes ["_law_number"] []
  m_Lis_prime : mg "_law_is_prime" = some (.ref a.a_Lis_prime)
  F_Lis_prime : Fun K "_law_is_prime" "_law_is_prime" s_Lis_prime a.a_Lis_prime a.fd_Lis_prime
  k_Lis_prime : PySem.W.keepIn K (.ref a.a_Lis_prime) = true
  b_Lis_prime : Binds K a.fd_Lis_prime ["_law_number"] []
  m_Lmultiple : mg "_law_multiple" = some (.ref a.a_Lmultiple)
  F_Lmultiple : Fun K "_law_multiple" "_law_multiple" s_Lmultiple a.a_Lmultiple a.fd_Lmultiple
  k_Lmultiple : PySem.W.keepIn K (.ref a.a_Lmultiple) = true
  b_Lmultiple : Binds K a.fd_Lmultiple ["_law_numbers"] []
  m_Lreturn : mg "_law_return" = some (.ref a.a_Lreturn)
  F_Lreturn : Fun K "_law_return" "_law_return" s_Lreturn a.a_Lreturn a.fd_Lreturn
  k_Lreturn : PySem.W.keepIn K (.ref a.a_Lreturn) = true
  b_Lreturn : Binds K a.fd_Lreturn ["_law_call", "_law_files", "_law_rows"] []
  m_law : mg "law" = some (.ref a.a_law)
  F_law : Fun K "law" "law" s_law a.a_law a.fd_law
  k_law : PySem.W.keepIn K (.ref a.a_law) = true
  b_law : Binds K a.fd_law ["_law_script"] []
  n_len : mg "len" = none
  n_abs : mg "abs" = none
  n_int : mg "int" = none
  n_range : mg "range" = none
  n_repr : mg "repr" = none
end My

set_option Elab.async false
set_option linter.all false
set_option maxRecDepth 100000
set_option maxHeartbeats 8000000
namespace My
open PySem PySem.Spec PyProof.Rows L2 Sx
local macro_rules | `(tactic| walk_at "nb") => `(tactic| first | exact NB.tup | exact NB.ints | exact NB.len (of_decide_eq_true rfl) | exact NB.at0b rfl | exact NB.at3b rfl | exact NB.ins | exact NB.own | exact NB.frz | exact NB.refs (by assumption) | assumption)
local macro_rules | `(tactic| walk_at "ne") => `(tactic| first | assumption | exact Ne.symm (by assumption) | exact ne_of_none (by assumption) (by assumption) | exact Ne.symm (ne_of_none (by assumption) (by assumption)))
local macro_rules | `(tactic| walk_at "hk") => `(tactic| first
  | assumption
  | exact upd_same
  | (refine' (upd_ne ?hkne).trans ?hkq; (case hkne => walk_at "ne"); (case hkq => walk_at "hk"))
  | (refine' Ex.kp (by assumption) _ _ ?hkq ?hkn; (case hkq => walk_at "hk"); (case hkn => walk_at "nb")))
local macro_rules | `(tactic| walk_at "rd1") => `(tactic| first
  | ((with_reducible refine' x_var ?hx ?_); (case hx => exact rfl))
  | with_reducible refine x_c ?_
  | with_reducible refine x_op ?_
  | with_reducible refine x_un ?_
  | with_reducible refine x_I0 ?_
  | with_reducible refine x_U ?_
  | ((with_reducible refine x_I ?hc ?_); (case hc => first | exact (by decide : (0 : Int) < _) | (show (0 : Int) < _; omega) | (show CMul _ _; first | exact .inl ⟨by omega, by omega⟩ | exact .inr ⟨by omega, by omega⟩) | (show CDiv _ _; exact ⟨by omega, by omega⟩) | (show CDivW _ _; exact wide_div (b := 200) (by omega) (by assumption) (by decide) (by decide)) | (show CDivW _ _; exact wide_div (b := 31) (by omega) (by omega) (by decide) (by decide))))
  | with_reducible refine x_EqI ?_
  | with_reducible refine x_NeI ?_
  | ((with_reducible refine x_EqSt ?h ?_); (case h => decide +kernel))
  | ((with_reducible refine x_EqSf ?h ?_); (case h => decide +kernel))
  | ((with_reducible refine x_NeSt ?h ?_); (case h => decide +kernel))
  | ((with_reducible refine x_NeSf ?h ?_); (case h => decide +kernel))
  | with_reducible refine x_EqS ?_
  | with_reducible refine x_NeS ?_
  | ((with_reducible refine' x_ixL ?hq ?hi ?_); (case hq => walk_at "hk"); (case hi => first | exact rfl | assumption))
  | ((with_reducible refine' x_ixT ?hq ?hi ?_); (case hq => walk_at "hk"); (case hi => first | exact rfl | assumption))
  | with_reducible refine x_chain ?_
  | with_reducible refine x_tup ?_
  | with_reducible refine x_lst ?_
  | ((with_reducible refine x_lenNew ?hl ?_); (case hl => exact Nat.le_of_ble_eq_true rfl); intro _ _ _ _ _)
  | ((with_reducible refine x_new ?_); intro _ _ _ _ _)
  | with_reducible refine x_sl ?_
  | with_reducible refine x_noPart ?_
  | with_reducible refine x_part ?_
  | with_reducible refine x_ex_int ?_
  | with_reducible refine x_ex_bl ?_
  | with_reducible refine x_ex_2 ?_
  | with_reducible refine x_test ?_
  | with_reducible refine x_B ?_
  | with_reducible refine x_and ?_
  | with_reducible refine x_or ?_
  | with_reducible refine x_not ?_
  | with_reducible refine x_andV ?_
  | with_reducible refine x_orV ?_
  | with_reducible refine x_notV ?_
  | with_reducible refine x_ifE ?_
  | with_reducible refine x_iteT ?_
  | with_reducible refine x_iteF ?_
  | ((with_reducible refine x_iteD ?_ ?_) <;> intro _)
  | ((with_reducible refine x_iteN ?_ ?_) <;> intro _)
  | with_reducible refine x_if ?_
  | with_reducible refine x_seq ?_
  | with_reducible refine x_next ?_
  | with_reducible refine x_asg ?_
  | with_reducible refine x_gName ?_
  | ((with_reducible refine' x_gTup ?hq ?hn ?_); (case hq => walk_at "hk"); (case hn => exact rfl))
  | with_reducible refine x_gCons ?_
  | with_reducible refine x_gNil ?_
  | ((with_reducible refine' x_gConsE ?h ?_); (case h => exact rfl))
  | ((with_reducible refine x_gNilE ?h ?_); (case h => exact rfl))
  | with_reducible refine x_ret ?_
  | with_reducible refine x_drop ?_
  | with_reducible refine x_par ?_
  | ((with_reducible refine' x_aug ?hx ?_); (case hx => exact rfl))
  | with_reducible refine x_ipI ?_
  | with_reducible refine x_augS ?_
  | with_reducible refine x_gSub ?_
  | ((with_reducible refine' x_setL ?hq ?hi ?_); (case hq => walk_at "hk"); (case hi => first | exact rfl | assumption))
  | with_reducible refine x_cons ?_
  | with_reducible refine x_nil ?_
  | with_reducible refine x_CB ?_
  | with_reducible refine x_abs ?_
  | with_reducible refine x_intI ?_
  | with_reducible refine x_intB ?_
  | ((with_reducible refine' x_lenL ?hq ?_); (case hq => walk_at "hk"))
  | ((with_reducible refine' x_lenT ?hq ?_); (case hq => walk_at "hk"))
  | ((with_reducible refine x_iteTe ?h ?_); (case h => exact rfl))
  | ((with_reducible refine x_iteFe ?h ?_); (case h => exact rfl))
  | walk_at "use"
  | with_reducible refine x_callS ?_
  | ((with_reducible refine x_lc ?_))
  | ((with_reducible refine x_for ?_))
  | ((with_reducible refine x_iR1 ?_))
  | ((with_reducible refine x_iL ?_))
  | ((with_reducible refine x_iZ ?_))
  | ((with_reducible refine x_yes ?_))
  | ((with_reducible refine' x_NIDt ?hq ?_); (case hq => assumption))
  | ((with_reducible refine' x_NIDf ?hq ?_); (case hq => assumption))
  | ((with_reducible refine' x_IIDf ?hq ?_); (case hq => assumption))
  | ((with_reducible refine' x_IIDt ?hq ?_); (case hq => assumption))
  | ((with_reducible refine' x_ixDs ?hd ?hq ?_); (case hd => assumption); (case hq => assumption))
  | ((with_reducible refine x_InSt ?h ?_); (case h => decide +kernel))
  | ((with_reducible refine x_InSf ?h ?_); (case h => decide +kernel))
  | ((with_reducible refine' x_notInI ?hq ?_); (case hq => walk_at "hk"))
  | ((with_reducible refine' x_inTt ?hq ?hv ?ha ?he ?_); (case hq => walk_at "hk"); (case hv => exact rfl); (case ha => exact rfl); (case he => decide +kernel))
  | ((with_reducible refine' x_inTf ?hq ?hv ?ha ?he ?_); (case hq => walk_at "hk"); (case hv => exact rfl); (case ha => exact rfl); (case he => decide +kernel))
  | ((with_reducible refine' x_slT ?hq ?hw ?_); (case hq => walk_at "hk"); (case hw => with_unfolding_all exact of_decide_eq_true rfl))
  | ((with_reducible refine' x_slL ?hq ?_); (case hq => walk_at "hk"))
  | ((with_reducible refine' x_catT ?hq ?hr ?n1 ?n2 ?hl ?_); (case hq => walk_at "hk"); (case hr => walk_at "hk"); (case n1 => exact List.cons_ne_nil _ _); (case n2 => exact List.cons_ne_nil _ _); (case hl => exact Nat.le_of_ble_eq_true rfl))
  | ((with_reducible refine x_bm ?_))
  | ((with_reducible refine x_lstRg ?_))
  | ((with_reducible refine x_rg1 ?_))
  | ((with_reducible refine And.intro ?h ?_); (case h => exact tyL (by assumption)))
  | dsimp only)
local macro_rules | `(tactic| walk_at "use") => `(tactic| fail)
local macro_rules | `(tactic| walk_at "rd") => `(tactic| repeat' (walk_at "rd1"))
local macro_rules | `(tactic| walk_at "ex") => `(tactic| first | exact Ex.refl _ | assumption | (refine' Ex.trans ?he (by assumption); (case he => walk_at "ex")))
local macro_rules | `(tactic| walk_at "rd1") => `(tactic| first
  | ((with_reducible refine x_iteDf ?h ?_); (case h => exact rfl))
  | ((with_reducible refine x_iteDt ?h ?_); (case h => exact rfl))
  | ((with_reducible refine x_iteNf ?h ?_); (case h => exact rfl))
  | ((with_reducible refine x_iteNt ?h ?_); (case h => exact rfl))
  | ((with_reducible refine x_isiI (r := true) ?h ?_); (case h => decide +kernel))
  | ((with_reducible refine x_isiI (r := false) ?h ?_); (case h => decide +kernel))
  | ((with_reducible refine x_isiS (r := true) ?h ?_); (case h => decide +kernel))
  | ((with_reducible refine x_isiS (r := false) ?h ?_); (case h => decide +kernel))
  | ((with_reducible refine x_isiB (r := true) ?h ?_); (case h => decide +kernel))
  | ((with_reducible refine x_isiB (r := false) ?h ?_); (case h => decide +kernel))
  | ((with_reducible refine' x_isiT (r := true) ?hp ?h ?_); (case hp => walk_at "hk"); (case h => decide +kernel))
  | ((with_reducible refine' x_isiT (r := false) ?hp ?h ?_); (case hp => walk_at "hk"); (case h => decide +kernel))
  | ((with_reducible refine' x_isiL (r := true) ?hp ?h ?_); (case hp => walk_at "hk"); (case h => decide +kernel))
  | ((with_reducible refine' x_isiL (r := false) ?hp ?h ?_); (case hp => walk_at "hk"); (case h => decide +kernel))
  | ((with_reducible refine' x_isi2L ?hp ?hl ?_); (case hp => walk_at "hk"); (case hl => walk_at "hk"))
  | ((with_reducible refine' x_isi2T ?hp ?hl ?_); (case hp => walk_at "hk"); (case hl => walk_at "hk"))
  | ((with_reducible refine' x_tupOfL ?hq ?_); (case hq => walk_at "hk"))
  | ((with_reducible refine' x_tupOfT ?hq ?_); (case hq => walk_at "hk"))
  | ((with_reducible refine x_lenS ?h ?_); (case h => exact Nat.le_of_ble_eq_true rfl))
  | ((with_reducible refine' x_all ?hq ?_); (case hq => walk_at "hk"))
  | with_reducible refine x_lenSet ?_)
local macro_rules | `(tactic| walk_at "nb") => `(tactic| first | exact NB.xd | exact NB.dK)
local macro_rules | `(tactic| walk_at "rd1") => `(tactic| first
  | with_reducible refine Er.x_par3 ?_
  | with_reducible refine Er.x_ex_3 ?_
  | with_reducible refine Er.x_revL0 ?_
  | ((with_reducible refine' Er.x_revL ?hq ?_); (case hq => walk_at "hk"))
  | with_reducible refine Er.x_dget2 ?_
  | with_reducible refine x_dict0 ?_
  | ((with_reducible refine x_pow ?hc ?_); (case hc => exact ⟨by decide, by decide, by decide⟩))
  | ((with_reducible refine And.intro ?h ?_); (case h => exact tyL (by walk_at "hk")))
  | ((with_reducible refine' Er.x_dis ?hq ?_); (case hq => walk_at "hk"))
  | ((with_reducible refine' Er.x_dgo ?hq ?he ?_); (case hq => walk_at "hk"); (case he => exact rfl)))
local macro_rules | `(tactic| walk_at "rd1") => `(tactic| first
  | with_reducible refine Er.x_callSS ?_
  | ((with_reducible refine Er.x_mulS2 ?h ?h0 ?h1 ?_); (case h => decide); (case h0 => decide); (case h1 => decide)))
local macro_rules | `(tactic| walk_at "rd1") => `(tactic| first
  | with_reducible refine Er.x_iR2 ?_
  | with_reducible refine Er.x_iEn ?_
  | with_reducible refine Er.x_cont ?_
  | ((with_reducible refine Er.x_isBt ?h ?_); (case h => exact rfl))
  | ((with_reducible refine Er.x_isBf ?h ?_); (case h => exact rfl))
  | ((with_reducible refine Er.x_isNBt ?h ?_); (case h => exact rfl))
  | ((with_reducible refine Er.x_isNBf ?h ?_); (case h => exact rfl))
  | with_reducible refine Er.x_isB ?_
  | with_reducible refine Er.x_isNB ?_)
local macro_rules | `(tactic| walk_at "nb") => `(tactic| exact NB.dT)
local macro_rules | `(tactic| walk_at "rd1") => `(tactic| first
  | with_reducible refine Er.x_dNotIn ?_
  | with_reducible refine Er.x_dPut ?_
  | with_reducible refine Er.x_dnewT ?_)

local macro_rules | `(tactic| walk_at "bg") => `(tactic| first | assumption | exact Ex.bag (by assumption) (by walk_at "bg"))
section
variable {P : Program} {w : World} {K : PySem.W.Frag} {mg : Str → Option Value} {base : Heap} {a : Ad} {H H1 H' : Hp} {Q : VK} {E : XK} {p b s : Addr} {q : C}
/-! the draws -/
def sp_Ltake : Sp := fun vs H Q _ => ∃ (b : Addr) (m : Int), vs = [.ref b, .int m] ∧ Bag b H ∧ 0 < m ∧ m.natAbs < 2 ^ 200 ∧ ∀ d H1, Ex H H1 → 0 ≤ d → d < m → Q (.int d) H1
theorem u_Ltake {m : Int} (hb : Bag b H) (h0 : 0 < m) (h1 : m.natAbs < 2 ^ 200) (k : ∀ d H1, Ex H H1 → 0 ≤ d → d < m → Q (.int d) H1) : sp_Ltake [.ref b, .int m] H Q E := ⟨b, m, rfl, hb, h0, h1, k⟩
theorem ok_Ltake (T : Txt K w mg a) : FnOk P w K mg base CX0 1 a.a_Ltake a.fd_Ltake ["_law_bag_here", "_law_upto"] sp_Ltake := by
  refine T.F_Ltake.ok sc_Ltake (fun vs H Q E h => ?_) (fun cdv A outer s H vs Q E hr h => ?_)
  · obtain ⟨b, m, rfl, _⟩ := h; rfl
  · obtain ⟨b, m, rfl, ⟨c, ⟨x, y, z, ns, hb, hc, hx, hy, hy2, hz⟩⟩, hm, hm2, k⟩ := h
    have hcb : c ≠ b := ne_of hc hb (NB.ints x y z c)
    have fin : ∀ (H1 : Hp) (v x' y' z' : Int), (∀ a, a ≠ b → H1 a = H a) → H1 b = some (.lst [.int x', .int y', .int z', .ref c]) → 0 ≤ x' → 0 ≤ y' → y' < 2147483647 → 0 ≤ z' → Q (.int (v % m)) H1 := by
      intro H1 v x' y' z' s1 s2 s3 s4 s5 s6
      exact k _ _ (Ex.bagTo hb s1 s2 s3 s4 s5 s6) (Int.emod_nonneg _ (by omega)) (Int.emod_lt_of_pos _ hm)
    refine ⟨_, (pss_cons (ps_if (pt_cmpR op_eq (pe_ix ix_list (pv 0) pe_int (fun _ _ => rfl)) pe_int (nomark _)) (pss_cons (ps_set (i := 2) sc_Ltake.nd rfl (Or.inl rfl) pe_int)
      (pss_cons (ps_if (pt_cmpR op_lt (pe_ix ix_list (pv 0) pe_int (fun _ _ => rfl)) (pe_callB c_len (by rfl) T.n_len PySem.boot_len (pa_cons (pe_ix ix_list (pv 0) pe_int (fun _ _ => rfl)) pa_nil)) (nomark _)) (pss_one (ps_set (i := 2) sc_Ltake.nd rfl (Or.inl rfl) (pe_ix ix_list (pe_ix ix_list (pv 0) pe_int (fun _ _ => rfl)) (pe_ix ix_list (pv 0) pe_int (fun _ _ => rfl)) (fun _ _ => rfl)))) pss_nil)
      (pss_cons (ps_augS (pv 0) pe_int get_list pe_int ip_add set_list)
      (pss_cons (ps_if (pt_cmpR op_ge (pv 2) pe_int (nomark _)) (pss_one (ps_asg (pv 2) (pg_sub (pv 0) pe_int set_list))) pss_nil)
      (pss_cons (ps_set (i := 3) sc_Ltake.nd rfl (Or.inl rfl) (pe_op op_add (pe_op op_add (pe_op op_mul (pe_ix ix_list (pv 0) pe_int (fun _ _ => rfl)) pe_int) (pe_op op_mod (pe_callTy c_int (by rfl) T.n_int (by decide +kernel) (pa_cons (pv 2) pa_nil)) pe_int)) (pe_op op_mul pe_int (pe_ix ix_list (pv 0) pe_int (fun _ _ => rfl)))))
      (pss_one (ps_asg (pe_op op_mod (pe_callTy c_int (by rfl) T.n_int (by decide +kernel) (pa_cons (pv 3) pa_nil)) pe_int) (pg_sub (pv 0) pe_int set_list)))))))) pss_nil)
      (pss_cons (ps_if (pt_cmpR op_gt (pe_ix ix_list (pv 0) pe_int (fun _ _ => rfl)) pe_int (nomark _)) (pss_cons (ps_set (i := 4) sc_Ltake.nd rfl (Or.inl rfl) (pe_op op_mod (pe_callTy c_int (by rfl) T.n_int (by decide +kernel) (pa_cons (pe_ix ix_list (pv 0) pe_int (fun _ _ => rfl)) pa_nil)) (pv 1)))
      (pss_cons (ps_asg (pe_op op_fdivW (pe_callTy c_int (by rfl) T.n_int (by decide +kernel) (pa_cons (pe_ix ix_list (pv 0) pe_int (fun _ _ => rfl)) pa_nil)) (pv 1)) (pg_sub (pv 0) pe_int set_list))
      (pss_one (ps_ret (pv 4))))) pss_nil)
      (pss_cons (ps_set (i := 5) sc_Ltake.nd rfl (Or.inl rfl) (pe_op op_mod (pe_callTy c_int (by rfl) T.n_int (by decide +kernel) (pa_cons (pe_op op_mul (pe_op op_add (pe_ix ix_list (pv 0) pe_int (fun _ _ => rfl)) pe_int) pe_int) pa_nil)) pe_int))
      (pss_cons (ps_set (i := 6) sc_Ltake.nd rfl (Or.inl rfl) (pe_op op_mod (pe_callTy c_int (by rfl) T.n_int (by decide +kernel) (pa_cons (pe_op op_mul (pe_op op_mod (pe_callTy c_int (by rfl) T.n_int (by decide +kernel) (pa_cons (pe_op op_mul (pv 5) (pv 5)) pa_nil)) pe_int) pe_int) pa_nil)) pe_int))
      (pss_one (ps_ret (pe_op op_mod (pe_callTy c_int (by rfl) T.n_int (by decide +kernel) (pa_cons (pe_op op_fdiv (pv 6) pe_int) pa_nil)) (pv 1)))))))), ?_⟩
    walk_at "rd"
    rotate_left
    all_goals try (exfalso; omega)
    rotate_right
    · rename_i hlt
      obtain ⟨n, hn⟩ := at_map (ns := ns) hz hlt
      refine x_ixL hc hn ?_
      walk_at "rd"
      all_goals try (exfalso; omega)
      all_goals try exact fin _ _ _ _ _ (fun a n => by simp only [upd, if_neg n]) (by first | exact hb | exact upd_same) (by first | omega | exact Int.ediv_nonneg (by omega) (by omega)) (by omega) (by omega) (by omega)
    all_goals try (exfalso; omega)
    all_goals try exact fin _ _ _ _ _ (fun a n => by simp only [upd, if_neg n]) (by first | exact hb | exact upd_same) (by first | omega | exact Int.ediv_nonneg (by omega) (by omega)) (by omega) (by omega) (by omega)
local macro_rules | `(tactic| walk_at "use") => `(tactic| ((with_reducible refine' u_Ltake ?hb ?h0 ?h1 ?_); (case hb => walk_at "bg"); (case h0 => omega); (case h1 => omega); intro _ _ _ _ _))
theorem x_slLq {xs : List V} {lo hi : Option Int} (h : SqL K H s xs) (k : JustNew (.lst (cutV xs lo hi)) H Q) : rSlL K (.ref s) lo hi H Q := ⟨s, xs, rfl, h, k⟩
theorem cut_ints (ns : List Int) (lo hi : Option Int) : ∃ ms : List Int, cutV (ns.map V.int) lo hi = ms.map V.int ∧ ms.length ≤ ns.length := by
  refine ⟨(ns.drop (HT.sIx (ns.map V.int).length 0 lo)).take (HT.sIx (ns.map V.int).length (ns.map V.int).length hi - HT.sIx (ns.map V.int).length 0 lo), ?_, ?_⟩
  · unfold cutV
    rw [List.map_take, List.map_drop]
  · rw [List.length_take, List.length_drop]
    omega
def sp_Lbag (K : PySem.W.Frag) : Sp := fun vs H Q _ => ∃ (s : Addr) (ns : List Int), vs = [.ref s] ∧ SqL K H s (ns.map V.int) ∧ ns.length ≤ 63 ∧ ∀ b H1, Ex H H1 → Bag b H1 → Q (.ref b) H1
theorem u_Lbag {ns : List Int} (h : SqL K H s (ns.map V.int)) (hl : ns.length ≤ 63) (k : ∀ b H1, Ex H H1 → Bag b H1 → Q (.ref b) H1) : sp_Lbag K [.ref s] H Q E := ⟨s, ns, rfl, h, hl, k⟩
theorem ok_Lbag (T : Txt K w mg a) : FnOk P w K mg base CX0 1 a.a_Lbag a.fd_Lbag ["_law_script"] (sp_Lbag K) := by
  refine T.F_Lbag.ok sc_Lbag (fun vs H Q E h => ?_) (fun cdv A outer s H vs Q E hr h => ?_)
  · obtain ⟨s, ns, rfl, _⟩ := h; rfl
  · obtain ⟨s, ns, rfl, hs, hl, k⟩ := h
    refine ⟨_, (pss_one (ps_ret (pe_lst (pa_cons pe_int (pa_cons pe_int (pa_cons pe_int (pa_cons (pe_lc (own := [("_law_cell", 1)]) rfl sc_Lbag.nd (pi_list (pe_slice sl_list (pv 0) po_none (po_some pe_int))) (blkOk_by (own := [("_law_cell", 1)]) (N := ["_law_script", "_law_cell"]) (sc := defScope s_Lbag) (by decide +kernel)) (fun _ _ _ _ _ => (pg_name (i := 1) sc_Lbag.nd rfl (Or.inl rfl) (Or.inr rfl))) (fun _ _ _ _ _ => pts_nil) (fun _ _ _ _ _ => (pe_callB c_abs (by rfl) T.n_abs (by decide +kernel) (pa_cons (pv 1) pa_nil)))) pa_nil))))))), ?_⟩
    walk_at "rd"
    refine x_slLq hs ?_
    walk_at "rd"
    rename_i p1 H1 e1 f1 h1
    obtain ⟨ms, em, lm⟩ := cut_ints ns none (some 63)
    rw [em] at h1
    refine lc_lst h1 NB.ints (fun i acc _ => (∃ ks : List Int, acc = ks.map V.int) ∧ acc.length = i ∧ i ≤ ms.length) ⟨⟨[], rfl⟩, rfl, Nat.zero_le _⟩ (fun _ _ _ _ _ h => h) (fun i acc _ h => ?_) (fun x => rfl) (fun i x acc H' hx e hI kk k1 k2 => ?_) (fun p ys H2 e hp hy hI => ?_)
    · obtain ⟨⟨ks, rfl⟩, h2, h3⟩ := h
      exact ⟨NB.ints, Nat.lt_of_le_of_lt (show _ ≤ 63 by omega) (by decide)⟩
    · rw [List.getElem?_map] at hx
      cases hx' : ms[i]? with
      | none => rw [hx'] at hx; cases hx
      | some n =>
        rw [hx'] at hx
        have en : V.int n = x := Option.some.inj hx
        subst en
        have hi := (List.getElem?_eq_some_iff.mp hx').1
        walk_at "rd"
        obtain ⟨⟨ks, rfl⟩, h2, h3⟩ := hI
        exact k1 _ _ (Ex.refl _) ⟨⟨ks ++ [if n < 0 then -n else n], by rw [List.map_append]; rfl⟩, by simp [h2], hi⟩
    · obtain ⟨⟨ks, rfl⟩, h2, h3⟩ := hI
      walk_at "rd"
      rename_i p3 H3 e3 f3 h3'
      exact k _ _ ((e1.trans e).trans e3) ⟨p, _, _, _, ks, h3', e3.kp _ _ hy NB.ints, by decide, by decide, by decide, by decide⟩
def sp_Lone : Sp := fun vs H Q _ => ∃ (b s : Addr) (xs : List V), vs = [.ref b, .ref s] ∧ Bag b H ∧ H s = some (.lst xs) ∧ NB (.lst xs) ∧ 0 < xs.length ∧ xs.length < 1073741824 ∧ ∀ v H1, Ex H H1 → v ∈ xs → Q v H1
theorem u_Lone {xs : List V} (hb : Bag b H) (hs : H s = some (.lst xs)) (nb : NB (.lst xs)) (h0 : 0 < xs.length) (h1 : xs.length < 1073741824) (k : ∀ v H1, Ex H H1 → v ∈ xs → Q v H1) : sp_Lone [.ref b, .ref s] H Q E := ⟨b, s, xs, rfl, hb, hs, nb, h0, h1, k⟩
theorem ok_Lone (T : Txt K w mg a) : FnOk P w K mg base CX0 2 a.a_Lone a.fd_Lone ["_law_bag_here", "_law_some"] sp_Lone := by
  refine T.F_Lone.ok sc_Lone (fun vs H Q E h => ?_) (fun cdv A outer s H vs Q E hr h => ?_)
  · obtain ⟨b, s, xs, rfl, _⟩ := h; rfl
  · obtain ⟨b, s, xs, rfl, hb, hs, nb, h0, h1, k⟩ := h
    have G_Ltake := ok_Ltake (P := P) (base := base) T
    refine ⟨_, (pss_one (ps_ret (pe_ix ix_list (pv 1) (pe_call G_Ltake (hr.mono (by decide)) (by rfl) T.m_Ltake T.k_Ltake T.b_Ltake .nil pass0 (pa_cons (pv 0) (pa_cons (pe_callB c_len (by rfl) T.n_len PySem.boot_len (pa_cons (pv 1) pa_nil)) pa_nil))) (fun _ _ => rfl)))), ?_⟩
    walk_at "rd"
    rename_i d H1 e1 d0 d1
    have hl : d.toNat < xs.length := by omega
    refine x_ixL (by walk_at "hk") (at_nat d0 (List.getElem?_eq_getElem hl)) ?_
    exact k _ _ e1 (List.getElem_mem hl)
end
end My

set_option Elab.async false
set_option linter.all false
set_option maxRecDepth 100000
set_option maxHeartbeats 8000000
namespace My
open PySem PySem.Spec PyProof.Rows L2 Sx
local macro_rules | `(tactic| walk_at "nb") => `(tactic| first | exact NB.tup | exact NB.ints | exact NB.len (of_decide_eq_true rfl) | exact NB.at0b rfl | exact NB.at3b rfl | exact NB.ins | exact NB.own | exact NB.frz | exact NB.refs (by assumption) | assumption)
local macro_rules | `(tactic| walk_at "ne") => `(tactic| first | assumption | exact Ne.symm (by assumption) | exact ne_of_none (by assumption) (by assumption) | exact Ne.symm (ne_of_none (by assumption) (by assumption)))
local macro_rules | `(tactic| walk_at "hk") => `(tactic| first
  | assumption
  | exact upd_same
  | (refine' (upd_ne ?hkne).trans ?hkq; (case hkne => walk_at "ne"); (case hkq => walk_at "hk"))
  | (refine' Ex.kp (by assumption) _ _ ?hkq ?hkn; (case hkq => walk_at "hk"); (case hkn => walk_at "nb")))
local macro_rules | `(tactic| walk_at "rd1") => `(tactic| first
  | ((with_reducible refine' x_var ?hx ?_); (case hx => exact rfl))
  | with_reducible refine x_c ?_
  | with_reducible refine x_op ?_
  | with_reducible refine x_un ?_
  | with_reducible refine x_I0 ?_
  | with_reducible refine x_U ?_
  | ((with_reducible refine x_I ?hc ?_); (case hc => first | exact (by decide : (0 : Int) < _) | (show (0 : Int) < _; omega) | (show CMul _ _; first | exact .inl ⟨by omega, by omega⟩ | exact .inr ⟨by omega, by omega⟩) | (show CDiv _ _; exact ⟨by omega, by omega⟩) | (show CDivW _ _; exact wide_div (b := 200) (by omega) (by assumption) (by decide) (by decide)) | (show CDivW _ _; exact wide_div (b := 31) (by omega) (by omega) (by decide) (by decide))))
  | with_reducible refine x_EqI ?_
  | with_reducible refine x_NeI ?_
  | ((with_reducible refine x_EqSt ?h ?_); (case h => decide +kernel))
  | ((with_reducible refine x_EqSf ?h ?_); (case h => decide +kernel))
  | ((with_reducible refine x_NeSt ?h ?_); (case h => decide +kernel))
  | ((with_reducible refine x_NeSf ?h ?_); (case h => decide +kernel))
  | with_reducible refine x_EqS ?_
  | with_reducible refine x_NeS ?_
  | ((with_reducible refine' x_ixL ?hq ?hi ?_); (case hq => walk_at "hk"); (case hi => first | exact rfl | assumption))
  | ((with_reducible refine' x_ixT ?hq ?hi ?_); (case hq => walk_at "hk"); (case hi => first | exact rfl | assumption))
  | with_reducible refine x_chain ?_
  | with_reducible refine x_tup ?_
  | with_reducible refine x_lst ?_
  | ((with_reducible refine x_lenNew ?hl ?_); (case hl => exact Nat.le_of_ble_eq_true rfl); intro _ _ _ _ _)
  | ((with_reducible refine x_new ?_); intro _ _ _ _ _)
  | with_reducible refine x_sl ?_
  | with_reducible refine x_noPart ?_
  | with_reducible refine x_part ?_
  | with_reducible refine x_ex_int ?_
  | with_reducible refine x_ex_bl ?_
  | with_reducible refine x_ex_2 ?_
  | with_reducible refine x_test ?_
  | with_reducible refine x_B ?_
  | with_reducible refine x_and ?_
  | with_reducible refine x_or ?_
  | with_reducible refine x_not ?_
  | with_reducible refine x_andV ?_
  | with_reducible refine x_orV ?_
  | with_reducible refine x_notV ?_
  | with_reducible refine x_ifE ?_
  | with_reducible refine x_iteT ?_
  | with_reducible refine x_iteF ?_
  | ((with_reducible refine x_iteD ?_ ?_) <;> intro _)
  | ((with_reducible refine x_iteN ?_ ?_) <;> intro _)
  | with_reducible refine x_if ?_
  | with_reducible refine x_seq ?_
  | with_reducible refine x_next ?_
  | with_reducible refine x_asg ?_
  | with_reducible refine x_gName ?_
  | ((with_reducible refine' x_gTup ?hq ?hn ?_); (case hq => walk_at "hk"); (case hn => exact rfl))
  | with_reducible refine x_gCons ?_
  | with_reducible refine x_gNil ?_
  | ((with_reducible refine' x_gConsE ?h ?_); (case h => exact rfl))
  | ((with_reducible refine x_gNilE ?h ?_); (case h => exact rfl))
  | with_reducible refine x_ret ?_
  | with_reducible refine x_drop ?_
  | with_reducible refine x_par ?_
  | ((with_reducible refine' x_aug ?hx ?_); (case hx => exact rfl))
  | with_reducible refine x_ipI ?_
  | with_reducible refine x_augS ?_
  | with_reducible refine x_gSub ?_
  | ((with_reducible refine' x_setL ?hq ?hi ?_); (case hq => walk_at "hk"); (case hi => first | exact rfl | assumption))
  | with_reducible refine x_cons ?_
  | with_reducible refine x_nil ?_
  | with_reducible refine x_CB ?_
  | with_reducible refine x_abs ?_
  | with_reducible refine x_intI ?_
  | with_reducible refine x_intB ?_
  | ((with_reducible refine' x_lenL ?hq ?_); (case hq => walk_at "hk"))
  | ((with_reducible refine' x_lenT ?hq ?_); (case hq => walk_at "hk"))
  | ((with_reducible refine x_iteTe ?h ?_); (case h => exact rfl))
  | ((with_reducible refine x_iteFe ?h ?_); (case h => exact rfl))
  | walk_at "use"
  | with_reducible refine x_callS ?_
  | ((with_reducible refine x_lc ?_))
  | ((with_reducible refine x_for ?_))
  | ((with_reducible refine x_iR1 ?_))
  | ((with_reducible refine x_iL ?_))
  | ((with_reducible refine x_iZ ?_))
  | ((with_reducible refine x_yes ?_))
  | ((with_reducible refine' x_NIDt ?hq ?_); (case hq => assumption))
  | ((with_reducible refine' x_NIDf ?hq ?_); (case hq => assumption))
  | ((with_reducible refine' x_IIDf ?hq ?_); (case hq => assumption))
  | ((with_reducible refine' x_IIDt ?hq ?_); (case hq => assumption))
  | ((with_reducible refine' x_ixDs ?hd ?hq ?_); (case hd => assumption); (case hq => assumption))
  | ((with_reducible refine x_InSt ?h ?_); (case h => decide +kernel))
  | ((with_reducible refine x_InSf ?h ?_); (case h => decide +kernel))
  | ((with_reducible refine' x_notInI ?hq ?_); (case hq => walk_at "hk"))
  | ((with_reducible refine' x_inTt ?hq ?hv ?ha ?he ?_); (case hq => walk_at "hk"); (case hv => exact rfl); (case ha => exact rfl); (case he => decide +kernel))
  | ((with_reducible refine' x_inTf ?hq ?hv ?ha ?he ?_); (case hq => walk_at "hk"); (case hv => exact rfl); (case ha => exact rfl); (case he => decide +kernel))
  | ((with_reducible refine' x_slT ?hq ?hw ?_); (case hq => walk_at "hk"); (case hw => with_unfolding_all exact of_decide_eq_true rfl))
  | ((with_reducible refine' x_slL ?hq ?_); (case hq => walk_at "hk"))
  | ((with_reducible refine' x_catT ?hq ?hr ?n1 ?n2 ?hl ?_); (case hq => walk_at "hk"); (case hr => walk_at "hk"); (case n1 => exact List.cons_ne_nil _ _); (case n2 => exact List.cons_ne_nil _ _); (case hl => exact Nat.le_of_ble_eq_true rfl))
  | ((with_reducible refine x_bm ?_))
  | ((with_reducible refine x_lstRg ?_))
  | ((with_reducible refine x_rg1 ?_))
  | ((with_reducible refine And.intro ?h ?_); (case h => exact tyL (by assumption)))
  | dsimp only)
local macro_rules | `(tactic| walk_at "use") => `(tactic| fail)
local macro_rules | `(tactic| walk_at "rd") => `(tactic| repeat' (walk_at "rd1"))
local macro_rules | `(tactic| walk_at "ex") => `(tactic| first | exact Ex.refl _ | assumption | (refine' Ex.trans ?he (by assumption); (case he => walk_at "ex")))
local macro_rules | `(tactic| walk_at "rd1") => `(tactic| first
  | ((with_reducible refine x_iteDf ?h ?_); (case h => exact rfl))
  | ((with_reducible refine x_iteDt ?h ?_); (case h => exact rfl))
  | ((with_reducible refine x_iteNf ?h ?_); (case h => exact rfl))
  | ((with_reducible refine x_iteNt ?h ?_); (case h => exact rfl))
  | ((with_reducible refine x_isiI (r := true) ?h ?_); (case h => decide +kernel))
  | ((with_reducible refine x_isiI (r := false) ?h ?_); (case h => decide +kernel))
  | ((with_reducible refine x_isiS (r := true) ?h ?_); (case h => decide +kernel))
  | ((with_reducible refine x_isiS (r := false) ?h ?_); (case h => decide +kernel))
  | ((with_reducible refine x_isiB (r := true) ?h ?_); (case h => decide +kernel))
  | ((with_reducible refine x_isiB (r := false) ?h ?_); (case h => decide +kernel))
  | ((with_reducible refine' x_isiT (r := true) ?hp ?h ?_); (case hp => walk_at "hk"); (case h => decide +kernel))
  | ((with_reducible refine' x_isiT (r := false) ?hp ?h ?_); (case hp => walk_at "hk"); (case h => decide +kernel))
  | ((with_reducible refine' x_isiL (r := true) ?hp ?h ?_); (case hp => walk_at "hk"); (case h => decide +kernel))
  | ((with_reducible refine' x_isiL (r := false) ?hp ?h ?_); (case hp => walk_at "hk"); (case h => decide +kernel))
  | ((with_reducible refine' x_isi2L ?hp ?hl ?_); (case hp => walk_at "hk"); (case hl => walk_at "hk"))
  | ((with_reducible refine' x_isi2T ?hp ?hl ?_); (case hp => walk_at "hk"); (case hl => walk_at "hk"))
  | ((with_reducible refine' x_tupOfL ?hq ?_); (case hq => walk_at "hk"))
  | ((with_reducible refine' x_tupOfT ?hq ?_); (case hq => walk_at "hk"))
  | ((with_reducible refine x_lenS ?h ?_); (case h => exact Nat.le_of_ble_eq_true rfl))
  | ((with_reducible refine' x_all ?hq ?_); (case hq => walk_at "hk"))
  | with_reducible refine x_lenSet ?_)
local macro_rules | `(tactic| walk_at "nb") => `(tactic| first | exact NB.xd | exact NB.dK)
local macro_rules | `(tactic| walk_at "rd1") => `(tactic| first
  | with_reducible refine Er.x_par3 ?_
  | with_reducible refine Er.x_ex_3 ?_
  | with_reducible refine Er.x_revL0 ?_
  | ((with_reducible refine' Er.x_revL ?hq ?_); (case hq => walk_at "hk"))
  | with_reducible refine Er.x_dget2 ?_
  | with_reducible refine x_dict0 ?_
  | ((with_reducible refine x_pow ?hc ?_); (case hc => exact ⟨by decide, by decide, by decide⟩))
  | ((with_reducible refine And.intro ?h ?_); (case h => exact tyL (by walk_at "hk")))
  | ((with_reducible refine' Er.x_dis ?hq ?_); (case hq => walk_at "hk"))
  | ((with_reducible refine' Er.x_dgo ?hq ?he ?_); (case hq => walk_at "hk"); (case he => exact rfl)))
local macro_rules | `(tactic| walk_at "rd1") => `(tactic| first
  | with_reducible refine Er.x_callSS ?_
  | ((with_reducible refine Er.x_mulS2 ?h ?h0 ?h1 ?_); (case h => decide); (case h0 => decide); (case h1 => decide)))
local macro_rules | `(tactic| walk_at "rd1") => `(tactic| first
  | with_reducible refine Er.x_iR2 ?_
  | with_reducible refine Er.x_iEn ?_
  | with_reducible refine Er.x_cont ?_
  | ((with_reducible refine Er.x_isBt ?h ?_); (case h => exact rfl))
  | ((with_reducible refine Er.x_isBf ?h ?_); (case h => exact rfl))
  | ((with_reducible refine Er.x_isNBt ?h ?_); (case h => exact rfl))
  | ((with_reducible refine Er.x_isNBf ?h ?_); (case h => exact rfl))
  | with_reducible refine Er.x_isB ?_
  | with_reducible refine Er.x_isNB ?_)
local macro_rules | `(tactic| walk_at "nb") => `(tactic| exact NB.dT)
local macro_rules | `(tactic| walk_at "rd1") => `(tactic| first
  | with_reducible refine Er.x_dNotIn ?_
  | with_reducible refine Er.x_dPut ?_
  | with_reducible refine Er.x_dnewT ?_)

section
variable {P : Program} {w : World} {K : PySem.W.Frag} {mg : Str → Option Value} {base : Heap} {a : Ad} {H H1 : Hp} {Q : VK} {E : XK} {p b : Addr} {v : V}
/-! inverse -/
def sp_inverse : Sp := fun vs H Q _ => ∃ n m : Int, vs = [.int n, .int m] ∧ 0 < m ∧ m.natAbs < 2 ^ 200 ∧ n.natAbs < 2 ^ 200 ∧ (∃ x y, n * x + m * y = 1) ∧ ∀ (r : Int) H1, Ex H H1 → 0 ≤ r → r < m → n * r % m = 1 % m → Q (.int r) H1
theorem u_inverse {n m : Int} (h0 : 0 < m) (h1 : m.natAbs < 2 ^ 200) (h2 : n.natAbs < 2 ^ 200) (bz : ∃ x y, n * x + m * y = 1) (k : ∀ (r : Int) H1, Ex H H1 → 0 ≤ r → r < m → n * r % m = 1 % m → Q (.int r) H1) : sp_inverse [.int n, .int m] H Q E := ⟨n, m, rfl, h0, h1, h2, bz, k⟩
theorem ok_inverse (T : Txt K w mg a) : FnOk P w K mg base CX0 1 a.a_inverse a.fd_inverse ["number", "modulus"] sp_inverse := by
  refine T.F_inverse.ok sc_inverse (fun vs H Q E h => ?_) (fun cdv A outer s H vs Q E hr h => ?_)
  · obtain ⟨n, m, rfl, _⟩ := h; rfl
  · obtain ⟨n, m, rfl, hm, hb, hn, bz, k⟩ := h
    refine ⟨_, (pss_cons (ps_par (i := 2) (j := 3) rfl sc_inverse.nd rfl rfl (by decide) rfl rfl (pa_cons (pe_op op_mod (pv 0) (pv 1)) (pa_cons (pv 1) pa_nil)) rfl)
      (pss_cons (ps_asg (pe_tup (pa_cons pe_int (pa_cons pe_int pa_nil))) (pg_tup rfl (pgs_cons (pg_name (i := 4) sc_inverse.nd rfl (Or.inl rfl)) (pgs_cons (pg_name (i := 5) sc_inverse.nd rfl (Or.inl rfl)) pgs_nil))))
      (pss_cons (ps_while PassesOwn.never (pt_cmpR op_ne (pv 3) pe_int (nomark _)) (pss_cons (ps_set (i := 6) sc_inverse.nd rfl (Or.inl rfl) (pe_op op_fdivW (pv 2) (pv 3)))
      (pss_cons (ps_par (i := 2) (j := 3) rfl sc_inverse.nd rfl rfl (by decide) rfl rfl (pa_cons (pv 3) (pa_cons (pe_op op_sub (pv 2) (pe_op op_mulW (pv 6) (pv 3))) pa_nil)) rfl)
      (pss_one (ps_par (i := 4) (j := 5) rfl sc_inverse.nd rfl rfl (by decide) rfl rfl (pa_cons (pv 5) (pa_cons (pe_op op_sub (pv 4) (pe_op op_mulW (pv 6) (pv 5))) pa_nil)) rfl)))))
      (pss_one (ps_ret (pe_op op_mod (pv 4) (pv 1))))))), ?_⟩
    walk_at "rd"
    refine Er.x_while (fun σ H' => Ex H H' ∧ ∃ (near far one other : Int) (t : Option V), σ = [some (.int n), some (.int m), some (.int near), some (.int far), some (.int one), some (.int other), t] ∧ near ≤ m ∧ far ≤ m ∧ Nt.Eu n m near far one other)
      (fun (σ : L2.St) (_ : Hp) => match σ[3]? with | some (some (V.int i)) => i.toNat | _ => 0) ⟨by walk_at "ex", _, _, _, _, _, rfl, Int.le_of_lt (Int.emod_lt_of_pos _ hm), Int.le_refl _, Nt.Eu.start hm bz⟩ ?_
    rintro σ H' ⟨ex, near, far, one, other, t, rfl, hl1, hl2, eu⟩
    walk_at "rd"
    · rename_i hf
      have h2 := eu.h2
      have hf' : 0 < far := by omega
      refine Er.x_goOn ?_
      walk_at "rd"
      have q0 : 0 ≤ near / far := Int.ediv_nonneg eu.h1 h2
      have q1 : near / far ≤ near := Int.ediv_le_self _ eu.h1
      have o2 := eu.o2
      refine x_I (wide_div (b := 200) hf' (by omega) (by decide) (by decide)) ?_
      walk_at "rd"
      refine x_I (wide_mul (a := 200) (b := 200) (by omega) (by omega) (by decide) (by decide) (by decide)) ?_
      walk_at "rd"
      refine x_I (wide_mul (a := 200) (b := 200) (by omega) (by omega) (by decide) (by decide) (by decide)) ?_
      walk_at "rd"
      have st := eu.step hf'
      have lt := Nt.Eu.lt (near := near) hf'
      have l2 := st.h2
      exact ⟨⟨ex, _, _, _, _, _, rfl, hl2, by omega, st⟩, by show (near - near / far * far).toNat < far.toNat; omega⟩
    · rename_i hf
      obtain rfl : far = 0 := by omega
      walk_at "rd"
      exact k _ _ ex (Int.emod_nonneg _ (by omega)) (Int.emod_lt_of_pos _ hm) eu.fin
/-! power -/
def sp_power : Sp := fun vs H Q _ => ∃ b e m : Int, vs = [.int b, .int e, .int m] ∧ 0 < m ∧ m.natAbs < 2 ^ 200 ∧ b.natAbs < 2 ^ 200 ∧ (e < 0 → ∃ x y, b * x + m * y = 1) ∧ ∀ (v : Int) H1, Ex H H1 → Nt.Pw b e m v → Q (.int v) H1
theorem u_power {b e m : Int} (h0 : 0 < m) (h1 : m.natAbs < 2 ^ 200) (h2 : b.natAbs < 2 ^ 200) (bz : e < 0 → ∃ x y, b * x + m * y = 1) (k : ∀ (v : Int) H1, Ex H H1 → Nt.Pw b e m v → Q (.int v) H1) : sp_power [.int b, .int e, .int m] H Q E := ⟨b, e, m, rfl, h0, h1, h2, bz, k⟩
theorem ok_power (T : Txt K w mg a) : FnOk P w K mg base CX0 2 a.a_power a.fd_power ["base", "exponent", "modulus"] sp_power := by
  refine T.F_power.ok sc_power (fun vs H Q E h => ?_) (fun cdv A outer s H vs Q E hr h => ?_)
  · obtain ⟨b, e, m, rfl, _⟩ := h; rfl
  · obtain ⟨b, e, m, rfl, hm, hm2, hb, bz, k⟩ := h
    have G_inverse := ok_inverse (P := P) (base := base) T
    refine ⟨_, (pss_cons (ps_set (i := 3) sc_power.nd rfl (Or.inl rfl) (pe_ifExp (pt_cmpR op_ge (pv 1) pe_int (nomark _)) (pe_op op_mod (pv 0) (pv 2)) (pe_call G_inverse (hr.mono (by decide)) (by rfl) T.m_inverse T.k_inverse T.b_inverse .nil pass0 (pa_cons (pv 0) (pa_cons (pv 2) pa_nil)))))
      (pss_cons (ps_set (i := 4) sc_power.nd rfl (Or.inl rfl) (pe_callB c_abs (by rfl) T.n_abs (by decide +kernel) (pa_cons (pv 1) pa_nil)))
      (pss_cons (ps_set (i := 5) sc_power.nd rfl (Or.inl rfl) (pe_op op_mod pe_int (pv 2)))
      (pss_cons (ps_while PassesOwn.never (pt_cmpR op_gt (pv 4) pe_int (nomark _)) (pss_cons (ps_if (pt_cmpR op_eq (pe_op op_mod (pv 4) pe_int) pe_int (nomark _)) (pss_one (ps_set (i := 5) sc_power.nd rfl (Or.inl rfl) (pe_op op_mod (pe_op op_mulW (pv 5) (pv 3)) (pv 2)))) pss_nil)
      (pss_cons (ps_set (i := 3) sc_power.nd rfl (Or.inl rfl) (pe_op op_mod (pe_op op_mulW (pv 3) (pv 3)) (pv 2)))
      (pss_one (ps_set (i := 4) sc_power.nd rfl (Or.inl rfl) (pe_op op_fdiv (pv 4) pe_int))))))
      (pss_one (ps_ret (pv 5))))))), ?_⟩
    walk_at "rd"
    · rename_i he
      have fc : Nt.Fac b e m (b % m) := ⟨Int.emod_nonneg _ (by omega), Int.emod_lt_of_pos _ hm, fun _ => rfl, fun z => by omega⟩
      generalize b % m = f0 at fc ⊢
      have m1 : 1 % m < m := Int.emod_lt_of_pos _ hm
      have m0 : 0 ≤ 1 % m := Int.emod_nonneg _ (by omega)
      refine Er.x_while (fun σ H' => Ex H H' ∧ ∃ (f l t : Int), σ = [some (.int b), some (.int e), some (.int m), some (.int f), some (.int l), some (.int t)] ∧ 0 ≤ f ∧ f < m ∧ 0 ≤ l ∧ 0 ≤ t ∧ t < m ∧ t * f ^ l.toNat % m = f0 ^ e.natAbs % m)
        (fun (σ : L2.St) (_ : Hp) => match σ[4]? with | some (some (V.int i)) => i.toNat | _ => 0) ⟨by walk_at "ex", _, _, _, rfl, fc.lo, fc.hi, by split <;> omega, m0, m1, ?_⟩ ?_
      · rw [Nt.emod_mul_left, Int.one_mul]
        congr 2
        split <;> omega
      · rintro σ H' ⟨ex, f, l, t, rfl, f1, f2, l0, t0, t1, inv⟩
        have e2 : (l / 2).toNat = l.toNat / 2 := by omega
        walk_at "rd"
        · rename_i hl
          refine Er.x_goOn ?_
          walk_at "rd"
          · rename_i ho
            refine x_I (wide_mul (a := 200) (b := 200) (Nt.small t0 t1 hm2) (Nt.small f1 f2 hm2) (by decide) (by decide) (by decide)) ?_
            walk_at "rd"
            refine x_I (wide_mul (a := 200) (b := 200) (Nt.small f1 f2 hm2) (Nt.small f1 f2 hm2) (by decide) (by decide) (by decide)) ?_
            walk_at "rd"
            refine ⟨⟨ex, _, _, _, rfl, Int.emod_nonneg _ (by omega), Int.emod_lt_of_pos _ hm, by omega, Int.emod_nonneg _ (by omega), Int.emod_lt_of_pos _ hm, ?_⟩, by show (l / 2).toNat < l.toNat; omega⟩
            rw [e2, Nt.turn_odd t f m _ (by omega)]
            exact inv
          · rename_i ho
            refine x_I (wide_mul (a := 200) (b := 200) (Nt.small f1 f2 hm2) (Nt.small f1 f2 hm2) (by decide) (by decide) (by decide)) ?_
            walk_at "rd"
            refine ⟨⟨ex, _, _, _, rfl, Int.emod_nonneg _ (by omega), Int.emod_lt_of_pos _ hm, by omega, t0, t1, ?_⟩, by show (l / 2).toNat < l.toNat; omega⟩
            rw [e2, Nt.turn_even t f m _ (by omega)]
            exact inv
        · rename_i hl
          obtain rfl : l = 0 := by omega
          walk_at "rd"
          refine k _ _ ex ⟨f0, fc, ?_⟩
          rw [← inv]
          simp [Int.emod_eq_of_lt t0 t1]
    · rename_i he
      refine u_inverse hm hm2 hb (bz (by omega)) fun f0 H1 ex1 r0 r1 rr => ?_
      have fc : Nt.Fac b e m f0 := ⟨r0, r1, fun z => by omega, fun _ => rr⟩
      walk_at "rd"
      have m1 : 1 % m < m := Int.emod_lt_of_pos _ hm
      have m0 : 0 ≤ 1 % m := Int.emod_nonneg _ (by omega)
      refine Er.x_while (fun σ H' => Ex H H' ∧ ∃ (f l t : Int), σ = [some (.int b), some (.int e), some (.int m), some (.int f), some (.int l), some (.int t)] ∧ 0 ≤ f ∧ f < m ∧ 0 ≤ l ∧ 0 ≤ t ∧ t < m ∧ t * f ^ l.toNat % m = f0 ^ e.natAbs % m)
        (fun (σ : L2.St) (_ : Hp) => match σ[4]? with | some (some (V.int i)) => i.toNat | _ => 0) ⟨by walk_at "ex", _, _, _, rfl, fc.lo, fc.hi, by split <;> omega, m0, m1, ?_⟩ ?_
      · rw [Nt.emod_mul_left, Int.one_mul]
        congr 2
        split <;> omega
      · rintro σ H' ⟨ex, f, l, t, rfl, f1, f2, l0, t0, t1, inv⟩
        have e2 : (l / 2).toNat = l.toNat / 2 := by omega
        walk_at "rd"
        · rename_i hl
          refine Er.x_goOn ?_
          walk_at "rd"
          · rename_i ho
            refine x_I (wide_mul (a := 200) (b := 200) (Nt.small t0 t1 hm2) (Nt.small f1 f2 hm2) (by decide) (by decide) (by decide)) ?_
            walk_at "rd"
            refine x_I (wide_mul (a := 200) (b := 200) (Nt.small f1 f2 hm2) (Nt.small f1 f2 hm2) (by decide) (by decide) (by decide)) ?_
            walk_at "rd"
            refine ⟨⟨ex, _, _, _, rfl, Int.emod_nonneg _ (by omega), Int.emod_lt_of_pos _ hm, by omega, Int.emod_nonneg _ (by omega), Int.emod_lt_of_pos _ hm, ?_⟩, by show (l / 2).toNat < l.toNat; omega⟩
            rw [e2, Nt.turn_odd t f m _ (by omega)]
            exact inv
          · rename_i ho
            refine x_I (wide_mul (a := 200) (b := 200) (Nt.small f1 f2 hm2) (Nt.small f1 f2 hm2) (by decide) (by decide) (by decide)) ?_
            walk_at "rd"
            refine ⟨⟨ex, _, _, _, rfl, Int.emod_nonneg _ (by omega), Int.emod_lt_of_pos _ hm, by omega, t0, t1, ?_⟩, by show (l / 2).toNat < l.toNat; omega⟩
            rw [e2, Nt.turn_even t f m _ (by omega)]
            exact inv
        · rename_i hl
          obtain rfl : l = 0 := by omega
          walk_at "rd"
          refine k _ _ ex ⟨f0, fc, ?_⟩
          rw [← inv]
          simp [Int.emod_eq_of_lt t0 t1]
/-! odd_of -/
def sp_odd_of : Sp := fun vs H Q _ => ∃ n : Int, vs = [.int n] ∧ Q (.int (n - 1 + n % 2)) H
theorem u_odd_of {n : Int} (k : Q (.int (n - 1 + n % 2)) H) : sp_odd_of [.int n] H Q E := ⟨n, rfl, k⟩
theorem ok_odd_of (T : Txt K w mg a) : FnOk P w K mg base CX0 1 a.a_odd_of a.fd_odd_of ["rows"] sp_odd_of := by
  refine T.F_odd_of.ok sc_odd_of (fun vs H Q E h => ?_) (fun cdv A outer s H vs Q E hr h => ?_)
  · obtain ⟨n, rfl, _⟩ := h; rfl
  · obtain ⟨n, rfl, k⟩ := h
    refine ⟨_, (pss_one (ps_ret (pe_op op_add (pe_op op_sub (pv 0) pe_int) (pe_op op_mod (pv 0) pe_int)))), ?_⟩
    walk_at "rd"
    exact k
local macro_rules | `(tactic| walk_at "use") => `(tactic| with_reducible refine u_odd_of ?_)
/-! errors made -/
end
end My

set_option Elab.async false
set_option linter.all false
set_option maxRecDepth 100000
set_option maxHeartbeats 8000000
namespace My
open PySem PySem.Spec PyProof.Rows L2 Sx
local macro_rules | `(tactic| walk_at "nb") => `(tactic| first | exact NB.tup | exact NB.ints | exact NB.len (of_decide_eq_true rfl) | exact NB.at0b rfl | exact NB.at3b rfl | exact NB.ins | exact NB.own | exact NB.frz | exact NB.refs (by assumption) | assumption)
local macro_rules | `(tactic| walk_at "ne") => `(tactic| first | assumption | exact Ne.symm (by assumption) | exact ne_of_none (by assumption) (by assumption) | exact Ne.symm (ne_of_none (by assumption) (by assumption)))
local macro_rules | `(tactic| walk_at "hk") => `(tactic| first
  | assumption
  | exact upd_same
  | (refine' (upd_ne ?hkne).trans ?hkq; (case hkne => walk_at "ne"); (case hkq => walk_at "hk"))
  | (refine' Ex.kp (by assumption) _ _ ?hkq ?hkn; (case hkq => walk_at "hk"); (case hkn => walk_at "nb")))
local macro_rules | `(tactic| walk_at "rd1") => `(tactic| first
  | ((with_reducible refine' x_var ?hx ?_); (case hx => exact rfl))
  | with_reducible refine x_c ?_
  | with_reducible refine x_op ?_
  | with_reducible refine x_un ?_
  | with_reducible refine x_I0 ?_
  | with_reducible refine x_U ?_
  | ((with_reducible refine x_I ?hc ?_); (case hc => first | exact (by decide : (0 : Int) < _) | (show (0 : Int) < _; omega) | (show CMul _ _; first | exact .inl ⟨by omega, by omega⟩ | exact .inr ⟨by omega, by omega⟩) | (show CDiv _ _; exact ⟨by omega, by omega⟩) | (show CDivW _ _; exact wide_div (b := 200) (by omega) (by assumption) (by decide) (by decide)) | (show CDivW _ _; exact wide_div (b := 31) (by omega) (by omega) (by decide) (by decide))))
  | with_reducible refine x_EqI ?_
  | with_reducible refine x_NeI ?_
  | ((with_reducible refine x_EqSt ?h ?_); (case h => decide +kernel))
  | ((with_reducible refine x_EqSf ?h ?_); (case h => decide +kernel))
  | ((with_reducible refine x_NeSt ?h ?_); (case h => decide +kernel))
  | ((with_reducible refine x_NeSf ?h ?_); (case h => decide +kernel))
  | with_reducible refine x_EqS ?_
  | with_reducible refine x_NeS ?_
  | ((with_reducible refine' x_ixL ?hq ?hi ?_); (case hq => walk_at "hk"); (case hi => first | exact rfl | assumption))
  | ((with_reducible refine' x_ixT ?hq ?hi ?_); (case hq => walk_at "hk"); (case hi => first | exact rfl | assumption))
  | with_reducible refine x_chain ?_
  | with_reducible refine x_tup ?_
  | with_reducible refine x_lst ?_
  | ((with_reducible refine x_lenNew ?hl ?_); (case hl => exact Nat.le_of_ble_eq_true rfl); intro _ _ _ _ _)
  | ((with_reducible refine x_new ?_); intro _ _ _ _ _)
  | with_reducible refine x_sl ?_
  | with_reducible refine x_noPart ?_
  | with_reducible refine x_part ?_
  | with_reducible refine x_ex_int ?_
  | with_reducible refine x_ex_bl ?_
  | with_reducible refine x_ex_2 ?_
  | with_reducible refine x_test ?_
  | with_reducible refine x_B ?_
  | with_reducible refine x_and ?_
  | with_reducible refine x_or ?_
  | with_reducible refine x_not ?_
  | with_reducible refine x_andV ?_
  | with_reducible refine x_orV ?_
  | with_reducible refine x_notV ?_
  | with_reducible refine x_ifE ?_
  | with_reducible refine x_iteT ?_
  | with_reducible refine x_iteF ?_
  | ((with_reducible refine x_iteD ?_ ?_) <;> intro _)
  | ((with_reducible refine x_iteN ?_ ?_) <;> intro _)
  | with_reducible refine x_if ?_
  | with_reducible refine x_seq ?_
  | with_reducible refine x_next ?_
  | with_reducible refine x_asg ?_
  | with_reducible refine x_gName ?_
  | ((with_reducible refine' x_gTup ?hq ?hn ?_); (case hq => walk_at "hk"); (case hn => exact rfl))
  | with_reducible refine x_gCons ?_
  | with_reducible refine x_gNil ?_
  | ((with_reducible refine' x_gConsE ?h ?_); (case h => exact rfl))
  | ((with_reducible refine x_gNilE ?h ?_); (case h => exact rfl))
  | with_reducible refine x_ret ?_
  | with_reducible refine x_drop ?_
  | with_reducible refine x_par ?_
  | ((with_reducible refine' x_aug ?hx ?_); (case hx => exact rfl))
  | with_reducible refine x_ipI ?_
  | with_reducible refine x_augS ?_
  | with_reducible refine x_gSub ?_
  | ((with_reducible refine' x_setL ?hq ?hi ?_); (case hq => walk_at "hk"); (case hi => first | exact rfl | assumption))
  | with_reducible refine x_cons ?_
  | with_reducible refine x_nil ?_
  | with_reducible refine x_CB ?_
  | with_reducible refine x_abs ?_
  | with_reducible refine x_intI ?_
  | with_reducible refine x_intB ?_
  | ((with_reducible refine' x_lenL ?hq ?_); (case hq => walk_at "hk"))
  | ((with_reducible refine' x_lenT ?hq ?_); (case hq => walk_at "hk"))
  | ((with_reducible refine x_iteTe ?h ?_); (case h => exact rfl))
  | ((with_reducible refine x_iteFe ?h ?_); (case h => exact rfl))
  | walk_at "use"
  | with_reducible refine x_callS ?_
  | ((with_reducible refine x_lc ?_))
  | ((with_reducible refine x_for ?_))
  | ((with_reducible refine x_iR1 ?_))
  | ((with_reducible refine x_iL ?_))
  | ((with_reducible refine x_iZ ?_))
  | ((with_reducible refine x_yes ?_))
  | ((with_reducible refine' x_NIDt ?hq ?_); (case hq => assumption))
  | ((with_reducible refine' x_NIDf ?hq ?_); (case hq => assumption))
  | ((with_reducible refine' x_IIDf ?hq ?_); (case hq => assumption))
  | ((with_reducible refine' x_IIDt ?hq ?_); (case hq => assumption))
  | ((with_reducible refine' x_ixDs ?hd ?hq ?_); (case hd => assumption); (case hq => assumption))
  | ((with_reducible refine x_InSt ?h ?_); (case h => decide +kernel))
  | ((with_reducible refine x_InSf ?h ?_); (case h => decide +kernel))
  | ((with_reducible refine' x_notInI ?hq ?_); (case hq => walk_at "hk"))
  | ((with_reducible refine' x_inTt ?hq ?hv ?ha ?he ?_); (case hq => walk_at "hk"); (case hv => exact rfl); (case ha => exact rfl); (case he => decide +kernel))
  | ((with_reducible refine' x_inTf ?hq ?hv ?ha ?he ?_); (case hq => walk_at "hk"); (case hv => exact rfl); (case ha => exact rfl); (case he => decide +kernel))
  | ((with_reducible refine' x_slT ?hq ?hw ?_); (case hq => walk_at "hk"); (case hw => with_unfolding_all exact of_decide_eq_true rfl))
  | ((with_reducible refine' x_slL ?hq ?_); (case hq => walk_at "hk"))
  | ((with_reducible refine' x_catT ?hq ?hr ?n1 ?n2 ?hl ?_); (case hq => walk_at "hk"); (case hr => walk_at "hk"); (case n1 => exact List.cons_ne_nil _ _); (case n2 => exact List.cons_ne_nil _ _); (case hl => exact Nat.le_of_ble_eq_true rfl))
  | ((with_reducible refine x_bm ?_))
  | ((with_reducible refine x_lstRg ?_))
  | ((with_reducible refine x_rg1 ?_))
  | ((with_reducible refine And.intro ?h ?_); (case h => exact tyL (by assumption)))
  | dsimp only)
local macro_rules | `(tactic| walk_at "use") => `(tactic| fail)
local macro_rules | `(tactic| walk_at "rd") => `(tactic| repeat' (walk_at "rd1"))
local macro_rules | `(tactic| walk_at "ex") => `(tactic| first | exact Ex.refl _ | assumption | (refine' Ex.trans ?he (by assumption); (case he => walk_at "ex")))
local macro_rules | `(tactic| walk_at "rd1") => `(tactic| first
  | ((with_reducible refine x_iteDf ?h ?_); (case h => exact rfl))
  | ((with_reducible refine x_iteDt ?h ?_); (case h => exact rfl))
  | ((with_reducible refine x_iteNf ?h ?_); (case h => exact rfl))
  | ((with_reducible refine x_iteNt ?h ?_); (case h => exact rfl))
  | ((with_reducible refine x_isiI (r := true) ?h ?_); (case h => decide +kernel))
  | ((with_reducible refine x_isiI (r := false) ?h ?_); (case h => decide +kernel))
  | ((with_reducible refine x_isiS (r := true) ?h ?_); (case h => decide +kernel))
  | ((with_reducible refine x_isiS (r := false) ?h ?_); (case h => decide +kernel))
  | ((with_reducible refine x_isiB (r := true) ?h ?_); (case h => decide +kernel))
  | ((with_reducible refine x_isiB (r := false) ?h ?_); (case h => decide +kernel))
  | ((with_reducible refine' x_isiT (r := true) ?hp ?h ?_); (case hp => walk_at "hk"); (case h => decide +kernel))
  | ((with_reducible refine' x_isiT (r := false) ?hp ?h ?_); (case hp => walk_at "hk"); (case h => decide +kernel))
  | ((with_reducible refine' x_isiL (r := true) ?hp ?h ?_); (case hp => walk_at "hk"); (case h => decide +kernel))
  | ((with_reducible refine' x_isiL (r := false) ?hp ?h ?_); (case hp => walk_at "hk"); (case h => decide +kernel))
  | ((with_reducible refine' x_isi2L ?hp ?hl ?_); (case hp => walk_at "hk"); (case hl => walk_at "hk"))
  | ((with_reducible refine' x_isi2T ?hp ?hl ?_); (case hp => walk_at "hk"); (case hl => walk_at "hk"))
  | ((with_reducible refine' x_tupOfL ?hq ?_); (case hq => walk_at "hk"))
  | ((with_reducible refine' x_tupOfT ?hq ?_); (case hq => walk_at "hk"))
  | ((with_reducible refine x_lenS ?h ?_); (case h => exact Nat.le_of_ble_eq_true rfl))
  | ((with_reducible refine' x_all ?hq ?_); (case hq => walk_at "hk"))
  | with_reducible refine x_lenSet ?_)
local macro_rules | `(tactic| walk_at "nb") => `(tactic| first | exact NB.xd | exact NB.dK)
local macro_rules | `(tactic| walk_at "rd1") => `(tactic| first
  | with_reducible refine Er.x_par3 ?_
  | with_reducible refine Er.x_ex_3 ?_
  | with_reducible refine Er.x_revL0 ?_
  | ((with_reducible refine' Er.x_revL ?hq ?_); (case hq => walk_at "hk"))
  | with_reducible refine Er.x_dget2 ?_
  | with_reducible refine x_dict0 ?_
  | ((with_reducible refine x_pow ?hc ?_); (case hc => exact ⟨by decide, by decide, by decide⟩))
  | ((with_reducible refine And.intro ?h ?_); (case h => exact tyL (by walk_at "hk")))
  | ((with_reducible refine' Er.x_dis ?hq ?_); (case hq => walk_at "hk"))
  | ((with_reducible refine' Er.x_dgo ?hq ?he ?_); (case hq => walk_at "hk"); (case he => exact rfl)))
local macro_rules | `(tactic| walk_at "rd1") => `(tactic| first
  | with_reducible refine Er.x_callSS ?_
  | ((with_reducible refine Er.x_mulS2 ?h ?h0 ?h1 ?_); (case h => decide); (case h0 => decide); (case h1 => decide)))
local macro_rules | `(tactic| walk_at "rd1") => `(tactic| first
  | with_reducible refine Er.x_iR2 ?_
  | with_reducible refine Er.x_iEn ?_
  | with_reducible refine Er.x_cont ?_
  | ((with_reducible refine Er.x_isBt ?h ?_); (case h => exact rfl))
  | ((with_reducible refine Er.x_isBf ?h ?_); (case h => exact rfl))
  | ((with_reducible refine Er.x_isNBt ?h ?_); (case h => exact rfl))
  | ((with_reducible refine Er.x_isNBf ?h ?_); (case h => exact rfl))
  | with_reducible refine Er.x_isB ?_
  | with_reducible refine Er.x_isNB ?_)
local macro_rules | `(tactic| walk_at "nb") => `(tactic| exact NB.dT)
local macro_rules | `(tactic| walk_at "rd1") => `(tactic| first
  | with_reducible refine Er.x_dNotIn ?_
  | with_reducible refine Er.x_dPut ?_
  | with_reducible refine Er.x_dnewT ?_)

section
variable {P : Program} {w : World} {K : PySem.W.Frag} {mg : Str → Option Value} {base : Heap} {a : Ad} {H H1 : Hp} {Q : VK} {E : XK} {p b : Addr} {v : V}
def nv (ps : List Nat) : List V := (ps.map fun n : Nat => (n : Int)).map V.int
theorem nv_app (ps : List Nat) (d : Nat) : nv ps ++ [V.int (d : Int)] = nv (ps ++ [d]) := by unfold nv; simp
theorem nv_nb {ps : List Nat} : NB (.lst (nv ps)) := NB.ints
theorem nv_len {ps : List Nat} : (nv ps).length = ps.length := by unfold nv; simp
/-! the greatest common divisor -/
def sp_common_divisor : Sp := fun vs H Q _ => ∃ i j : Nat, vs = [.int i, .int j] ∧ Q (.int (Nat.gcd i j : Nat)) H
theorem ok_common_divisor (T : Txt K w mg a) : FnOk P w K mg base CX0 1 a.a_common_divisor a.fd_common_divisor ["one", "other"] sp_common_divisor := by
  refine T.F_common_divisor.ok sc_common_divisor (fun vs H Q E h => ?_) (fun cdv A outer s H vs Q E hr h => ?_)
  · obtain ⟨i, j, rfl, _⟩ := h; rfl
  · obtain ⟨i, j, rfl, k⟩ := h
    refine ⟨_, (pss_cons (ps_while PassesOwn.never (pt_cmpR op_ne (pv 1) pe_int (nomark _)) (pss_one (ps_par (i := 0) (j := 1) rfl sc_common_divisor.nd rfl rfl (by decide) rfl rfl (pa_cons (pv 1) (pa_cons (pe_op op_mod (pv 0) (pv 1)) pa_nil)) rfl)))
      (pss_one (ps_ret (pv 0)))), ?_⟩
    walk_at "rd"
    refine Er.x_while (fun σ H' => H' = H ∧ ∃ x y : Nat, σ = [some (.int x), some (.int y)] ∧ Nat.gcd x y = Nat.gcd i j) (fun (σ : L2.St) (_ : Hp) => match σ[1]? with | some (some (V.int i)) => i.toNat | _ => 0) ⟨rfl, _, _, rfl, rfl⟩ ?_
    rintro σ H' ⟨rfl, x, y, rfl, g⟩
    walk_at "rd"
    · rename_i hy
      refine Er.x_goOn ?_
      walk_at "rd"
      have e : ((x : Int) % (y : Int)) = ((x % y : Nat) : Int) := by omega
      refine ⟨⟨rfl, y, x % y, ?_, ?_⟩, ?_⟩
      · show [some (V.int y), some (V.int ((x : Int) % (y : Int)))] = _
        rw [e]
      · rw [Nat.gcd_comm, ← Nat.gcd_rec, Nat.gcd_comm, g]
      · have := Nat.mod_lt x (show 0 < y by omega)
        show ((x : Int) % (y : Int)).toNat < (y : Int).toNat
        omega
    · rename_i hy
      obtain rfl : y = 0 := by omega
      walk_at "rd"
      rw [Nat.gcd_zero_right] at g
      rw [← g] at k
      exact k
/-! whether there is an order -/
def sp_has_order : Sp := fun vs H Q _ => ∃ (n : Int) (m : Nat), vs = [.int n, .int m] ∧ 0 < m ∧ Q (.bl (decide (Nat.gcd (n % (m : Int)).toNat m = 1))) H
theorem ok_has_order (T : Txt K w mg a) : FnOk P w K mg base CX0 2 a.a_has_order a.fd_has_order ["base", "modulus"] sp_has_order := by
  refine T.F_has_order.ok sc_has_order (fun vs H Q E h => ?_) (fun cdv A outer s H vs Q E hr h => ?_)
  · obtain ⟨n, m, rfl, _⟩ := h; rfl
  · obtain ⟨n, m, rfl, hm, k⟩ := h
    have G_common_divisor := ok_common_divisor (P := P) (base := base) T
    refine ⟨_, (pss_one (ps_ret (pe_cmpR op_eq (pe_call G_common_divisor (hr.mono (by decide)) (by rfl) T.m_common_divisor T.k_common_divisor T.b_common_divisor .nil pass0 (pa_cons (pe_op op_mod (pv 0) (pv 1)) (pa_cons (pv 1) pa_nil))) pe_int (nomark _)))), ?_⟩
    walk_at "rd"
    have n0 := Int.emod_nonneg n (show (m : Int) ≠ 0 by omega)
    refine ⟨(n % (m : Int)).toNat, m, by rw [Int.toNat_of_nonneg n0], ?_⟩
    walk_at "rd"
    have e : decide (((Nat.gcd (n % (m : Int)).toNat m : Nat) : Int) = 1) = decide (Nat.gcd (n % (m : Int)).toNat m = 1) := by
      congr 1
      apply propext
      omega
    rw [e]
    exact k
/-! the prime divisors -/
def sp_primes_of : Sp := fun vs H Q _ => ∃ n : Nat, vs = [.int n] ∧ 0 < n ∧ n ≤ 1000000 ∧ ∀ p ps H1, Ex H H1 → Er.NF H p → Nt.PL n ps → H1 p = some (.lst (nv ps)) → Q (.ref p) H1
theorem u_primes_of {n : Nat} (h0 : 0 < n) (h1 : n ≤ 1000000) (k : ∀ p ps H1, Ex H H1 → Er.NF H p → Nt.PL n ps → H1 p = some (.lst (nv ps)) → Q (.ref p) H1) : sp_primes_of [.int n] H Q E := ⟨n, rfl, h0, h1, k⟩
theorem nv_short {n : Nat} {ps : List Nat} (h : Nt.PL n ps) (h0 : 0 < n) (h1 : n ≤ 1000000) : True := trivial
theorem ok_primes_of (T : Txt K w mg a) : FnOk P w K mg base CX0 1 a.a_primes_of a.fd_primes_of ["number"] sp_primes_of := by
  refine T.F_primes_of.ok sc_primes_of (fun vs H Q E h => ?_) (fun cdv A outer s H vs Q E hr h => ?_)
  · obtain ⟨n, rfl, _⟩ := h; rfl
  · obtain ⟨n, rfl, h0, h1, k⟩ := h
    refine ⟨_, (pss_cons (ps_set (i := 1) sc_primes_of.nd rfl (Or.inl rfl) (pe_lst pa_nil))
      (pss_cons (ps_set (i := 2) sc_primes_of.nd rfl (Or.inl rfl) (pv 0))
      (pss_cons (ps_set (i := 3) sc_primes_of.nd rfl (Or.inl rfl) pe_int)
      (pss_cons (ps_while PassesOwn.never (pt_cmpR op_le (pe_op op_mul (pv 3) (pv 3)) (pv 2) (nomark _)) (pss_cons (ps_if (pt_cmpR op_eq (pe_op op_mod (pv 2) (pv 3)) pe_int (nomark _)) (pss_one (ps_expr (pe_bm PySem.F.plainAttrs_list PySem.F.slot_list_append PySem.F.type_list_append mt_append (pv 1) (pa_cons (pv 3) pa_nil)))) pss_nil)
      (pss_cons (ps_while PassesOwn.never (pt_cmpR op_eq (pe_op op_mod (pv 2) (pv 3)) pe_int (nomark _)) (pss_one (ps_set (i := 2) sc_primes_of.nd rfl (Or.inl rfl) (pe_op op_fdivW (pv 2) (pv 3)))))
      (pss_one (ps_aug (i := 3) sc_primes_of.nd rfl (Or.inl rfl) pe_int ip_add)))))
      (pss_one (ps_ret (pe_ifExp (pt_cmpR op_gt (pv 2) pe_int (nomark _)) (pe_op op_cat (pv 1) (pe_lst (pa_cons (pv 2) pa_nil))) (pv 1)))))))), ?_⟩
    walk_at "rd"
    rename_i t G g ft ht
    refine Er.x_while (fun σ H' => Ex H H' ∧ ∃ (told : List Nat) (left d : Nat), σ = [some (.int n), some (.ref t), some (.int left), some (.int d)] ∧ H' t = some (.lst (nv told)) ∧ told.length + 2 ≤ d ∧ d ≤ n + 2 ∧ Nt.PSt n told left d)
      (fun (σ : L2.St) (_ : Hp) => match σ[3]? with | some (some (V.int i)) => n + 3 - i.toNat | _ => 0) ⟨g, [], n, 2, rfl, ht, by decide, by omega, Nt.PSt.start h0⟩ ?_
    rintro σ H' ⟨e1, told, left, d, rfl, hT, tl, hd, st⟩
    have ln : left ≤ n := Nat.le_of_dvd h0 st.ld
    have d2 := st.d2
    have sq : ((d : Int) * (d : Int)) = ((d * d : Nat) : Int) := by rw [Int.natCast_mul]
    walk_at "rd"
    · rename_i hlt
      rw [sq] at hlt
      have dn : d ≤ n := by
        have := Nat.le_mul_self d
        omega
      have rest : ∀ (told' : List Nat) (H2 : Hp) (left' : Nat), True := fun _ _ _ => trivial
      clear rest
      refine Er.x_goOn ?_
      walk_at "rd"
      · rename_i hm
        have dl : d ∣ left := Nt.mod0.mp hm
        have hp := st.prime dl
        refine Er.x_append hT (by rw [nv_len]; exact Nat.lt_of_le_of_lt (show _ ≤ 1000000 + 2 by omega) (by decide)) ?_
        rw [nv_app]
        have e2 : Ex H (upd H' t (.lst (nv (told ++ [d])))) := Ex.mut e1 ft
        have hT2 : (upd H' t (.lst (nv (told ++ [d])))) t = some (.lst (nv (told ++ [d]))) := upd_same
        generalize upd H' t (.lst (nv (told ++ [d]))) = H2 at e2 hT2 ⊢
        refine Er.x_while (fun σ H3 => H3 = H2 ∧ ∃ left' : Nat, σ = [some (.int n), some (.ref t), some (.int left'), some (.int d)] ∧ Nt.PM left d left') (fun (σ : L2.St) (_ : Hp) => match σ[2]? with | some (some (V.int i)) => i.toNat | _ => 0) ⟨rfl, left, rfl, Nt.PM.start st.l0⟩ ?_
        rintro σ H3 ⟨rfl, left', rfl, pm⟩
        walk_at "rd"
        · rename_i hm'
          have dl' := Nt.mod0.mp hm'
          obtain ⟨pm', lt⟩ := pm.step hp dl'
          refine Er.x_goOn ?_
          walk_at "rd"
          have e : ((left' : Int) / (d : Int)) = ((left' / d : Nat) : Int) := by omega
          refine ⟨⟨rfl, left' / d, ?_, pm'⟩, ?_⟩
          · show [some (V.int n), some (V.ref t), some (V.int ((left' : Int) / (d : Int))), some (V.int d)] = _
            rw [e]
          · show ((left' : Int) / (d : Int)).toNat < (left' : Int).toNat
            rw [e, Int.toNat_natCast, Int.toNat_natCast]
            exact lt
        · rename_i hm'
          have ndl : ¬ d ∣ left' := fun z => hm' (Nt.mod0.mpr z)
          walk_at "rd"
          refine ⟨⟨e2, told ++ [d], left', d + 1, rfl, hT2, by rw [List.length_append]; show told.length + 1 + 2 ≤ _; omega, by omega, st.next dl pm ndl⟩, ?_⟩
          show n + 3 - ((d : Int) + 1).toNat < n + 3 - (d : Int).toNat
          omega
      · rename_i hm
        have ndl : ¬ d ∣ left := fun z => hm (Nt.mod0.mpr z)
        refine Er.x_while (fun σ H3 => H3 = H' ∧ σ = [some (.int n), some (.ref t), some (.int left), some (.int d)]) (fun (_ : L2.St) (_ : Hp) => 0) ⟨rfl, rfl⟩ ?_
        rintro σ H3 ⟨rfl, rfl⟩
        walk_at "rd"
        · rename_i hm'
          exact absurd hm' hm
        · walk_at "rd"
          refine ⟨⟨e1, told, left, d + 1, rfl, hT, by omega, by omega, st.skip ndl⟩, ?_⟩
          show n + 3 - ((d : Int) + 1).toNat < n + 3 - (d : Int).toNat
          omega
    · rename_i hlt h2 p3 H3 e3 f3 h3
      rw [sq] at hlt
      have pl := st.fin (by omega)
      rw [if_pos (by omega)] at pl
      refine x_cat (e3.kp _ _ hT nv_nb) h3 (by rw [nv_len]; exact Nat.le_trans (show _ ≤ 1000000 + 2 by show told.length + 1 ≤ _; omega) (by decide)) ?_
      rw [nv_app]
      walk_at "rd"
      rename_i p4 H4 e4 f4 h4
      have f4' : Er.NF H p4 := .new (e1.trans e3) f4
      exact k _ _ _ (e1.trans (e3.trans e4)) f4' pl h4
    · rename_i hlt h2
      rw [sq] at hlt
      have pl := st.fin (by omega)
      rw [if_neg (by omega)] at pl
      exact k _ _ _ e1 (.of ft) pl hT
/-! how many are coprime -/
def sp_totient : Sp := fun vs H Q _ => ∃ m : Nat, vs = [.int m] ∧ 0 < m ∧ m ≤ 1000000 ∧ ∀ ps H1, Ex H H1 → Nt.PL m ps → Q (.int (Nt.tot m ps : Nat)) H1
theorem ok_totient (T : Txt K w mg a) : FnOk P w K mg base CX0 2 a.a_totient a.fd_totient ["modulus"] sp_totient := by
  refine T.F_totient.ok sc_totient (fun vs H Q E h => ?_) (fun cdv A outer s H vs Q E hr h => ?_)
  · obtain ⟨m, rfl, _⟩ := h; rfl
  · obtain ⟨m, rfl, h0, h1, k⟩ := h
    have G_primes_of := ok_primes_of (P := P) (base := base) T
    refine ⟨_, (pss_cons (ps_set (i := 1) sc_totient.nd rfl (Or.inl rfl) (pv 0))
      (pss_cons (ps_for PassesOwn.never rfl (pi_list (pe_call G_primes_of (hr.mono (by decide)) (by rfl) T.m_primes_of T.k_primes_of T.b_primes_of .nil pass0 (pa_cons (pv 0) pa_nil))) (pg_name (i := 2) sc_totient.nd rfl (Or.inl rfl)) (pss_one (ps_set (i := 1) sc_totient.nd rfl (Or.inl rfl) (pe_op op_mul (pe_op op_fdivW (pv 1) (pv 2)) (pe_op op_sub (pv 2) pe_int)))))
      (pss_one (ps_ret (pv 1))))), ?_⟩
    walk_at "rd"
    refine u_primes_of h0 h1 fun p ps H2 e1 _ pl hp => ?_
    walk_at "rd"
    have bd := pl.le h0
    refine for_lst hp (fun i σ H' => H' = H2 ∧ ∃ v2 : Option V, σ = [some (.int m), some (.int (Nt.tot m (ps.take i) : Nat)), v2]) ⟨rfl, _, rfl⟩ (fun i σ H' _ h => by rw [h.1]; exact hp) (fun i x σ H' hx h => ?_) (fun σ H' h => ?_)
    · obtain ⟨rfl, v2, rfl⟩ := h
      unfold nv at hx
      rw [List.getElem?_map, List.getElem?_map] at hx
      cases hq : ps[i]? with
      | none => rw [hq] at hx; cases hx
      | some q =>
        rw [hq] at hx
        obtain rfl := Option.some.inj hx
        have lt := (List.getElem?_eq_some_iff.mp hq).1
        have mem : q ∈ ps := List.mem_of_getElem? hq
        obtain ⟨q2, qm⟩ := bd q mem
        have tk : ps.take (i + 1) = ps.take i ++ [q] := by rw [List.take_succ, hq]; rfl
        have tl := Nt.tot_le (ps.take i) m fun p hp => (bd p (List.mem_of_mem_take hp)).1
        show tAsg _ _ _ [some (V.int m), some (V.int (Nt.tot m (ps.take i) : Nat)), some (V.int (q : Int))] H'
        generalize ht : Nt.tot m (ps.take i) = t at *
        walk_at "rd"
        have e : ((t : Int) / (q : Int)) = ((t / q : Nat) : Int) := by omega
        have e2 : ((t / q : Nat) : Int) * ((q : Int) - 1) = ((t / q * (q - 1) : Nat) : Int) := by
          rw [Int.natCast_mul]
          congr 1
          omega
        refine ⟨rfl, some (V.int (q : Int)), ?_⟩
        have st : Nt.tot m (ps.take (i + 1)) = t / q * (q - 1) := by
          rw [tk]
          unfold Nt.tot at ht ⊢
          rw [List.foldl_append, ht]
          rfl
        show [some (V.int m), some (V.int ((t : Int) / (q : Int) * ((q : Int) - 1))), some (V.int (q : Int))] = _
        rw [e, e2, st]
    · obtain ⟨rfl, v2, rfl⟩ := h
      walk_at "rd"
      rw [show (nv ps).length = ps.length from nv_len, List.take_length]
      exact k ps _ e1 pl
end
end My

set_option Elab.async false
set_option linter.all false
set_option maxRecDepth 100000
set_option maxHeartbeats 8000000
namespace My
open PySem PySem.Spec PyProof.Rows L2 Sx
local macro_rules | `(tactic| walk_at "nb") => `(tactic| first | exact NB.tup | exact NB.ints | exact NB.len (of_decide_eq_true rfl) | exact NB.at0b rfl | exact NB.at3b rfl | exact NB.ins | exact NB.own | exact NB.frz | exact NB.refs (by assumption) | assumption)
local macro_rules | `(tactic| walk_at "ne") => `(tactic| first | assumption | exact Ne.symm (by assumption) | exact ne_of_none (by assumption) (by assumption) | exact Ne.symm (ne_of_none (by assumption) (by assumption)))
local macro_rules | `(tactic| walk_at "hk") => `(tactic| first
  | assumption
  | exact upd_same
  | (refine' (upd_ne ?hkne).trans ?hkq; (case hkne => walk_at "ne"); (case hkq => walk_at "hk"))
  | (refine' Ex.kp (by assumption) _ _ ?hkq ?hkn; (case hkq => walk_at "hk"); (case hkn => walk_at "nb")))
local macro_rules | `(tactic| walk_at "rd1") => `(tactic| first
  | ((with_reducible refine' x_var ?hx ?_); (case hx => exact rfl))
  | with_reducible refine x_c ?_
  | with_reducible refine x_op ?_
  | with_reducible refine x_un ?_
  | with_reducible refine x_I0 ?_
  | with_reducible refine x_U ?_
  | ((with_reducible refine x_I ?hc ?_); (case hc => first | exact (by decide : (0 : Int) < _) | (show (0 : Int) < _; omega) | (show CMul _ _; first | exact .inl ⟨by omega, by omega⟩ | exact .inr ⟨by omega, by omega⟩) | (show CDiv _ _; exact ⟨by omega, by omega⟩) | (show CDivW _ _; exact wide_div (b := 200) (by omega) (by assumption) (by decide) (by decide)) | (show CDivW _ _; exact wide_div (b := 31) (by omega) (by omega) (by decide) (by decide))))
  | with_reducible refine x_EqI ?_
  | with_reducible refine x_NeI ?_
  | ((with_reducible refine x_EqSt ?h ?_); (case h => decide +kernel))
  | ((with_reducible refine x_EqSf ?h ?_); (case h => decide +kernel))
  | ((with_reducible refine x_NeSt ?h ?_); (case h => decide +kernel))
  | ((with_reducible refine x_NeSf ?h ?_); (case h => decide +kernel))
  | with_reducible refine x_EqS ?_
  | with_reducible refine x_NeS ?_
  | ((with_reducible refine' x_ixL ?hq ?hi ?_); (case hq => walk_at "hk"); (case hi => first | exact rfl | assumption))
  | ((with_reducible refine' x_ixT ?hq ?hi ?_); (case hq => walk_at "hk"); (case hi => first | exact rfl | assumption))
  | with_reducible refine x_chain ?_
  | with_reducible refine x_tup ?_
  | with_reducible refine x_lst ?_
  | ((with_reducible refine x_lenNew ?hl ?_); (case hl => exact Nat.le_of_ble_eq_true rfl); intro _ _ _ _ _)
  | ((with_reducible refine x_new ?_); intro _ _ _ _ _)
  | with_reducible refine x_sl ?_
  | with_reducible refine x_noPart ?_
  | with_reducible refine x_part ?_
  | with_reducible refine x_ex_int ?_
  | with_reducible refine x_ex_bl ?_
  | with_reducible refine x_ex_2 ?_
  | with_reducible refine x_test ?_
  | with_reducible refine x_B ?_
  | with_reducible refine x_and ?_
  | with_reducible refine x_or ?_
  | with_reducible refine x_not ?_
  | with_reducible refine x_andV ?_
  | with_reducible refine x_orV ?_
  | with_reducible refine x_notV ?_
  | with_reducible refine x_ifE ?_
  | with_reducible refine x_iteT ?_
  | with_reducible refine x_iteF ?_
  | ((with_reducible refine x_iteD ?_ ?_) <;> intro _)
  | ((with_reducible refine x_iteN ?_ ?_) <;> intro _)
  | with_reducible refine x_if ?_
  | with_reducible refine x_seq ?_
  | with_reducible refine x_next ?_
  | with_reducible refine x_asg ?_
  | with_reducible refine x_gName ?_
  | ((with_reducible refine' x_gTup ?hq ?hn ?_); (case hq => walk_at "hk"); (case hn => exact rfl))
  | with_reducible refine x_gCons ?_
  | with_reducible refine x_gNil ?_
  | ((with_reducible refine' x_gConsE ?h ?_); (case h => exact rfl))
  | ((with_reducible refine x_gNilE ?h ?_); (case h => exact rfl))
  | with_reducible refine x_ret ?_
  | with_reducible refine x_drop ?_
  | with_reducible refine x_par ?_
  | ((with_reducible refine' x_aug ?hx ?_); (case hx => exact rfl))
  | with_reducible refine x_ipI ?_
  | with_reducible refine x_augS ?_
  | with_reducible refine x_gSub ?_
  | ((with_reducible refine' x_setL ?hq ?hi ?_); (case hq => walk_at "hk"); (case hi => first | exact rfl | assumption))
  | with_reducible refine x_cons ?_
  | with_reducible refine x_nil ?_
  | with_reducible refine x_CB ?_
  | with_reducible refine x_abs ?_
  | with_reducible refine x_intI ?_
  | with_reducible refine x_intB ?_
  | ((with_reducible refine' x_lenL ?hq ?_); (case hq => walk_at "hk"))
  | ((with_reducible refine' x_lenT ?hq ?_); (case hq => walk_at "hk"))
  | ((with_reducible refine x_iteTe ?h ?_); (case h => exact rfl))
  | ((with_reducible refine x_iteFe ?h ?_); (case h => exact rfl))
  | walk_at "use"
  | with_reducible refine x_callS ?_
  | ((with_reducible refine x_lc ?_))
  | ((with_reducible refine x_for ?_))
  | ((with_reducible refine x_iR1 ?_))
  | ((with_reducible refine x_iL ?_))
  | ((with_reducible refine x_iZ ?_))
  | ((with_reducible refine x_yes ?_))
  | ((with_reducible refine' x_NIDt ?hq ?_); (case hq => assumption))
  | ((with_reducible refine' x_NIDf ?hq ?_); (case hq => assumption))
  | ((with_reducible refine' x_IIDf ?hq ?_); (case hq => assumption))
  | ((with_reducible refine' x_IIDt ?hq ?_); (case hq => assumption))
  | ((with_reducible refine' x_ixDs ?hd ?hq ?_); (case hd => assumption); (case hq => assumption))
  | ((with_reducible refine x_InSt ?h ?_); (case h => decide +kernel))
  | ((with_reducible refine x_InSf ?h ?_); (case h => decide +kernel))
  | ((with_reducible refine' x_notInI ?hq ?_); (case hq => walk_at "hk"))
  | ((with_reducible refine' x_inTt ?hq ?hv ?ha ?he ?_); (case hq => walk_at "hk"); (case hv => exact rfl); (case ha => exact rfl); (case he => decide +kernel))
  | ((with_reducible refine' x_inTf ?hq ?hv ?ha ?he ?_); (case hq => walk_at "hk"); (case hv => exact rfl); (case ha => exact rfl); (case he => decide +kernel))
  | ((with_reducible refine' x_slT ?hq ?hw ?_); (case hq => walk_at "hk"); (case hw => with_unfolding_all exact of_decide_eq_true rfl))
  | ((with_reducible refine' x_slL ?hq ?_); (case hq => walk_at "hk"))
  | ((with_reducible refine' x_catT ?hq ?hr ?n1 ?n2 ?hl ?_); (case hq => walk_at "hk"); (case hr => walk_at "hk"); (case n1 => exact List.cons_ne_nil _ _); (case n2 => exact List.cons_ne_nil _ _); (case hl => exact Nat.le_of_ble_eq_true rfl))
  | ((with_reducible refine x_bm ?_))
  | ((with_reducible refine x_lstRg ?_))
  | ((with_reducible refine x_rg1 ?_))
  | ((with_reducible refine And.intro ?h ?_); (case h => exact tyL (by assumption)))
  | dsimp only)
local macro_rules | `(tactic| walk_at "use") => `(tactic| fail)
local macro_rules | `(tactic| walk_at "rd") => `(tactic| repeat' (walk_at "rd1"))
local macro_rules | `(tactic| walk_at "ex") => `(tactic| first | exact Ex.refl _ | assumption | (refine' Ex.trans ?he (by assumption); (case he => walk_at "ex")))
local macro_rules | `(tactic| walk_at "rd1") => `(tactic| first
  | ((with_reducible refine x_iteDf ?h ?_); (case h => exact rfl))
  | ((with_reducible refine x_iteDt ?h ?_); (case h => exact rfl))
  | ((with_reducible refine x_iteNf ?h ?_); (case h => exact rfl))
  | ((with_reducible refine x_iteNt ?h ?_); (case h => exact rfl))
  | ((with_reducible refine x_isiI (r := true) ?h ?_); (case h => decide +kernel))
  | ((with_reducible refine x_isiI (r := false) ?h ?_); (case h => decide +kernel))
  | ((with_reducible refine x_isiS (r := true) ?h ?_); (case h => decide +kernel))
  | ((with_reducible refine x_isiS (r := false) ?h ?_); (case h => decide +kernel))
  | ((with_reducible refine x_isiB (r := true) ?h ?_); (case h => decide +kernel))
  | ((with_reducible refine x_isiB (r := false) ?h ?_); (case h => decide +kernel))
  | ((with_reducible refine' x_isiT (r := true) ?hp ?h ?_); (case hp => walk_at "hk"); (case h => decide +kernel))
  | ((with_reducible refine' x_isiT (r := false) ?hp ?h ?_); (case hp => walk_at "hk"); (case h => decide +kernel))
  | ((with_reducible refine' x_isiL (r := true) ?hp ?h ?_); (case hp => walk_at "hk"); (case h => decide +kernel))
  | ((with_reducible refine' x_isiL (r := false) ?hp ?h ?_); (case hp => walk_at "hk"); (case h => decide +kernel))
  | ((with_reducible refine' x_isi2L ?hp ?hl ?_); (case hp => walk_at "hk"); (case hl => walk_at "hk"))
  | ((with_reducible refine' x_isi2T ?hp ?hl ?_); (case hp => walk_at "hk"); (case hl => walk_at "hk"))
  | ((with_reducible refine' x_tupOfL ?hq ?_); (case hq => walk_at "hk"))
  | ((with_reducible refine' x_tupOfT ?hq ?_); (case hq => walk_at "hk"))
  | ((with_reducible refine x_lenS ?h ?_); (case h => exact Nat.le_of_ble_eq_true rfl))
  | ((with_reducible refine' x_all ?hq ?_); (case hq => walk_at "hk"))
  | with_reducible refine x_lenSet ?_)
local macro_rules | `(tactic| walk_at "nb") => `(tactic| first | exact NB.xd | exact NB.dK)
local macro_rules | `(tactic| walk_at "rd1") => `(tactic| first
  | with_reducible refine Er.x_par3 ?_
  | with_reducible refine Er.x_ex_3 ?_
  | with_reducible refine Er.x_revL0 ?_
  | ((with_reducible refine' Er.x_revL ?hq ?_); (case hq => walk_at "hk"))
  | with_reducible refine Er.x_dget2 ?_
  | with_reducible refine x_dict0 ?_
  | ((with_reducible refine x_pow ?hc ?_); (case hc => exact ⟨by decide, by decide, by decide⟩))
  | ((with_reducible refine And.intro ?h ?_); (case h => exact tyL (by walk_at "hk")))
  | ((with_reducible refine' Er.x_dis ?hq ?_); (case hq => walk_at "hk"))
  | ((with_reducible refine' Er.x_dgo ?hq ?he ?_); (case hq => walk_at "hk"); (case he => exact rfl)))
local macro_rules | `(tactic| walk_at "rd1") => `(tactic| first
  | with_reducible refine Er.x_callSS ?_
  | ((with_reducible refine Er.x_mulS2 ?h ?h0 ?h1 ?_); (case h => decide); (case h0 => decide); (case h1 => decide)))
local macro_rules | `(tactic| walk_at "rd1") => `(tactic| first
  | with_reducible refine Er.x_iR2 ?_
  | with_reducible refine Er.x_iEn ?_
  | with_reducible refine Er.x_cont ?_
  | ((with_reducible refine Er.x_isBt ?h ?_); (case h => exact rfl))
  | ((with_reducible refine Er.x_isBf ?h ?_); (case h => exact rfl))
  | ((with_reducible refine Er.x_isNBt ?h ?_); (case h => exact rfl))
  | ((with_reducible refine Er.x_isNBf ?h ?_); (case h => exact rfl))
  | with_reducible refine Er.x_isB ?_
  | with_reducible refine Er.x_isNB ?_)
local macro_rules | `(tactic| walk_at "nb") => `(tactic| exact NB.dT)
local macro_rules | `(tactic| walk_at "rd1") => `(tactic| first
  | with_reducible refine Er.x_dNotIn ?_
  | with_reducible refine Er.x_dPut ?_
  | with_reducible refine Er.x_dnewT ?_)

section
variable {P : Program} {w : World} {K : PySem.W.Frag} {mg : Str → Option Value} {base : Heap} {a : Ad} {H H1 : Hp} {Q : VK} {E : XK} {p b : Addr} {v : V}
/-! the order with its primes -/
def sp_order_paper : Sp := fun vs H Q _ => ∃ (n : Int) (m : Nat), vs = [.int n, .int m] ∧ 0 < m ∧ m ≤ 1000000 ∧ n.natAbs < 2 ^ 190 ∧ Nat.gcd (n % (m : Int)).toNat m = 1 ∧
  ∀ p q o ps H1, Ex H H1 → Nt.Ord n m o → o ≤ m → Nt.PL o ps → Er.NF H q → H1 p = some (.tup [.int (o : Nat), .ref q]) → H1 q = some (.lst (nv ps)) → Q (.ref p) H1
theorem ok_order_paper (T : Txt K w mg a) : FnOk P w K mg base CX0 3 a.a_order_paper a.fd_order_paper ["base", "modulus"] sp_order_paper := by
  refine T.F_order_paper.ok sc_order_paper (fun vs H Q E h => ?_) (fun cdv A outer s H vs Q E hr h => ?_)
  · obtain ⟨n, m, rfl, _⟩ := h; rfl
  · obtain ⟨n, m, rfl, h0, h1, hn, hg, k⟩ := h
    have G_has_order := ok_has_order (P := P) (base := base) T
    have G_totient := ok_totient (P := P) (base := base) T
    have G_primes_of := ok_primes_of (P := P) (base := base) T
    have G_power := ok_power (P := P) (base := base) T
    refine ⟨_, (pss_cons (ps_if (pt_not (pt_val (pe_call G_has_order (hr.mono (by decide)) (by rfl) T.m_has_order T.k_has_order T.b_has_order .nil pass0 (pa_cons (pv 0) (pa_cons (pv 1) pa_nil))))) (pss_one ps_never) pss_nil)
      (pss_cons (ps_set (i := 2) sc_order_paper.nd rfl (Or.inl rfl) (pe_call G_totient (hr.mono (by decide)) (by rfl) T.m_totient T.k_totient T.b_totient .nil pass0 (pa_cons (pv 1) pa_nil)))
      (pss_cons (ps_set (i := 3) sc_order_paper.nd rfl (Or.inl rfl) (pv 2))
      (pss_cons (ps_for PassesOwn.never rfl (pi_list (pe_call G_primes_of (hr.mono (by decide)) (by rfl) T.m_primes_of T.k_primes_of T.b_primes_of .nil pass0 (pa_cons (pv 2) pa_nil))) (pg_name (i := 4) sc_order_paper.nd rfl (Or.inl rfl)) (pss_one (ps_while PassesOwn.never (PW.pt (pw_and (pt_cmpR op_eq (pe_op op_mod (pv 3) (pv 4)) pe_int (nomark _)) (pw_and1 (pt_cmpR op_eq (pe_call G_power (hr.mono (by decide)) (by rfl) T.m_power T.k_power T.b_power .nil pass0 (pa_cons (pv 0) (pa_cons (pe_op op_fdivW (pv 3) (pv 4)) (pa_cons (pv 1) pa_nil)))) (pe_op op_mod pe_int (pv 1)) (nomark _))))) (pss_one (ps_set (i := 3) sc_order_paper.nd rfl (Or.inl rfl) (pe_op op_fdivW (pv 3) (pv 4)))))))
      (pss_one (ps_ret (pe_tup (pa_cons (pv 3) (pa_cons (pe_call G_primes_of (hr.mono (by decide)) (by rfl) T.m_primes_of T.k_primes_of T.b_primes_of .nil pass0 (pa_cons (pv 3) pa_nil)) pa_nil))))))))), ?_⟩
    walk_at "rd"
    refine ⟨n, m, rfl, h0, ?_⟩
    rw [decide_eq_true hg]
    walk_at "rd"
    refine ⟨m, rfl, h0, h1, fun ps0 H2 e2 pl0 => ?_⟩
    have cop := Nt.cop_of hg h0
    obtain ⟨eu, tp⟩ := Nt.euler pl0 h0 cop
    have tl := Nt.tot_le ps0 m fun p hp => (pl0.le h0 p hp).1
    generalize Nt.tot m ps0 = most at *
    clear pl0
    walk_at "rd"
    refine u_primes_of tp (by omega) fun p ps H3 e3 _ pl hp => ?_
    walk_at "rd"
    have bd := pl.le tp
    refine for_lst hp (fun i σ H' => Ex H3 H' ∧ ∃ (o : Nat) (v4 : Option V), σ = [some (.int n), some (.int m), some (.int most), some (.int o), v4] ∧ Nt.OSt n m most o (ps.take i)) ⟨Ex.refl _, most, _, rfl, Nt.OSt.start tp eu⟩ (fun i σ H' _ h => h.1.kp _ _ hp nv_nb) (fun i x σ H' hx h => ?_) (fun σ H' h => ?_)
    · obtain ⟨e4, o, v4, rfl, st⟩ := h
      unfold nv at hx
      rw [List.getElem?_map, List.getElem?_map] at hx
      cases hq : ps[i]? with
      | none => rw [hq] at hx; cases hx
      | some q =>
        rw [hq] at hx
        obtain rfl := Option.some.inj hx
        have mem : q ∈ ps := List.mem_of_getElem? hq
        obtain ⟨q2, qm⟩ := bd q mem
        have tk : ps.take (i + 1) = ps.take i ++ [q] := by rw [List.take_succ, hq]; rfl
        rw [tk]
        have hpq := (pl.pr q mem).1
        refine Er.x_while (fun σ H5 => Ex H3 H5 ∧ ∃ o : Nat, σ = [some (.int n), some (.int m), some (.int most), some (.int o), some (.int q)] ∧ Nt.OSt n m most o (ps.take i)) (fun (σ : L2.St) (_ : Hp) => match σ[3]? with | some (some (V.int i)) => i.toNat | _ => 0) ⟨e4, o, rfl, st⟩ ?_
        rintro σ H5 ⟨e5, o, rfl, st⟩
        have om : o ≤ most := Nat.le_of_dvd tp st.dv
        have e : ((o : Int) / (q : Int)) = ((o / q : Nat) : Int) := by omega
        have ol : o / q ≤ o := Nat.div_le_self o q
        walk_at "rd"
        · rename_i hm
          have qo := Nt.mod0.mp hm
          rw [e]
          refine u_power (b := n) (e := ((o / q : Nat) : Int)) (m := (m : Int)) (by omega) (by omega) (by omega) (fun z => absurd z (Int.not_lt.mpr (Int.natCast_nonneg _))) fun v H6 e6 pw => ?_
          walk_at "rd"
          · rename_i hv
            have one := (Nt.Pw.one pw).mp hv
            obtain ⟨st', lt⟩ := st.step hpq qo one
            refine Er.x_goOn ?_
            walk_at "rd"
            refine ⟨⟨e5.trans e6, o / q, ?_, st'⟩, ?_⟩
            · show [some (V.int n), some (V.int (m : Int)), some (V.int (most : Int)), some (V.int ((o : Int) / (q : Int))), some (V.int (q : Int))] = _
              rw [e]
            · show ((o : Int) / (q : Int)).toNat < (o : Int).toNat
              rw [e, Int.toNat_natCast, Int.toNat_natCast]
              exact lt
          · rename_i hv
            exact ⟨e5.trans e6, o, _, rfl, st.next fun _ z => hv ((Nt.Pw.one pw).mpr z)⟩
        · rename_i hm
          exact ⟨e5, o, _, rfl, st.next fun z => absurd (Nt.mod0.mpr z) hm⟩
    · obtain ⟨e4, o, v4, rfl, st⟩ := h
      rw [show (nv ps).length = ps.length from nv_len, List.take_length] at st
      have od := st.fin pl
      have om : o ≤ most := Nat.le_of_dvd tp st.dv
      walk_at "rd"
      refine u_primes_of st.pos (by omega) fun q ps2 H6 e6 nf pl2 hq => ?_
      walk_at "rd"
      rename_i p7 H7 e7 f7 h7
      exact k p7 q o ps2 H7 (e2.trans (e3.trans (e4.trans (e6.trans e7)))) od (by omega) pl2 (nf.back (e2.trans (e3.trans e4))) h7 (e7.kp _ _ hq nv_nb)
end
end My

set_option Elab.async false
set_option linter.all false
set_option maxRecDepth 100000
set_option maxHeartbeats 8000000
namespace My
open PySem PySem.Spec PyProof.Rows L2 Sx
local macro_rules | `(tactic| walk_at "nb") => `(tactic| first | exact NB.tup | exact NB.ints | exact NB.len (of_decide_eq_true rfl) | exact NB.at0b rfl | exact NB.at3b rfl | exact NB.ins | exact NB.own | exact NB.frz | exact NB.refs (by assumption) | assumption)
local macro_rules | `(tactic| walk_at "ne") => `(tactic| first | assumption | exact Ne.symm (by assumption) | exact ne_of_none (by assumption) (by assumption) | exact Ne.symm (ne_of_none (by assumption) (by assumption)))
local macro_rules | `(tactic| walk_at "hk") => `(tactic| first
  | assumption
  | exact upd_same
  | (refine' (upd_ne ?hkne).trans ?hkq; (case hkne => walk_at "ne"); (case hkq => walk_at "hk"))
  | (refine' Ex.kp (by assumption) _ _ ?hkq ?hkn; (case hkq => walk_at "hk"); (case hkn => walk_at "nb")))
local macro_rules | `(tactic| walk_at "rd1") => `(tactic| first
  | ((with_reducible refine' x_var ?hx ?_); (case hx => exact rfl))
  | with_reducible refine x_c ?_
  | with_reducible refine x_op ?_
  | with_reducible refine x_un ?_
  | with_reducible refine x_I0 ?_
  | with_reducible refine x_U ?_
  | ((with_reducible refine x_I ?hc ?_); (case hc => first | exact (by decide : (0 : Int) < _) | (show (0 : Int) < _; omega) | (show CMul _ _; first | exact .inl ⟨by omega, by omega⟩ | exact .inr ⟨by omega, by omega⟩) | (show CDiv _ _; exact ⟨by omega, by omega⟩) | (show CDivW _ _; exact wide_div (b := 200) (by omega) (by assumption) (by decide) (by decide)) | (show CDivW _ _; exact wide_div (b := 31) (by omega) (by omega) (by decide) (by decide))))
  | with_reducible refine x_EqI ?_
  | with_reducible refine x_NeI ?_
  | ((with_reducible refine x_EqSt ?h ?_); (case h => decide +kernel))
  | ((with_reducible refine x_EqSf ?h ?_); (case h => decide +kernel))
  | ((with_reducible refine x_NeSt ?h ?_); (case h => decide +kernel))
  | ((with_reducible refine x_NeSf ?h ?_); (case h => decide +kernel))
  | with_reducible refine x_EqS ?_
  | with_reducible refine x_NeS ?_
  | ((with_reducible refine' x_ixL ?hq ?hi ?_); (case hq => walk_at "hk"); (case hi => first | exact rfl | assumption))
  | ((with_reducible refine' x_ixT ?hq ?hi ?_); (case hq => walk_at "hk"); (case hi => first | exact rfl | assumption))
  | with_reducible refine x_chain ?_
  | with_reducible refine x_tup ?_
  | with_reducible refine x_lst ?_
  | ((with_reducible refine x_lenNew ?hl ?_); (case hl => exact Nat.le_of_ble_eq_true rfl); intro _ _ _ _ _)
  | ((with_reducible refine x_new ?_); intro _ _ _ _ _)
  | with_reducible refine x_sl ?_
  | with_reducible refine x_noPart ?_
  | with_reducible refine x_part ?_
  | with_reducible refine x_ex_int ?_
  | with_reducible refine x_ex_bl ?_
  | with_reducible refine x_ex_2 ?_
  | with_reducible refine x_test ?_
  | with_reducible refine x_B ?_
  | with_reducible refine x_and ?_
  | with_reducible refine x_or ?_
  | with_reducible refine x_not ?_
  | with_reducible refine x_andV ?_
  | with_reducible refine x_orV ?_
  | with_reducible refine x_notV ?_
  | with_reducible refine x_ifE ?_
  | with_reducible refine x_iteT ?_
  | with_reducible refine x_iteF ?_
  | ((with_reducible refine x_iteD ?_ ?_) <;> intro _)
  | ((with_reducible refine x_iteN ?_ ?_) <;> intro _)
  | with_reducible refine x_if ?_
  | with_reducible refine x_seq ?_
  | with_reducible refine x_next ?_
  | with_reducible refine x_asg ?_
  | with_reducible refine x_gName ?_
  | ((with_reducible refine' x_gTup ?hq ?hn ?_); (case hq => walk_at "hk"); (case hn => exact rfl))
  | with_reducible refine x_gCons ?_
  | with_reducible refine x_gNil ?_
  | ((with_reducible refine' x_gConsE ?h ?_); (case h => exact rfl))
  | ((with_reducible refine x_gNilE ?h ?_); (case h => exact rfl))
  | with_reducible refine x_ret ?_
  | with_reducible refine x_drop ?_
  | with_reducible refine x_par ?_
  | ((with_reducible refine' x_aug ?hx ?_); (case hx => exact rfl))
  | with_reducible refine x_ipI ?_
  | with_reducible refine x_augS ?_
  | with_reducible refine x_gSub ?_
  | ((with_reducible refine' x_setL ?hq ?hi ?_); (case hq => walk_at "hk"); (case hi => first | exact rfl | assumption))
  | with_reducible refine x_cons ?_
  | with_reducible refine x_nil ?_
  | with_reducible refine x_CB ?_
  | with_reducible refine x_abs ?_
  | with_reducible refine x_intI ?_
  | with_reducible refine x_intB ?_
  | ((with_reducible refine' x_lenL ?hq ?_); (case hq => walk_at "hk"))
  | ((with_reducible refine' x_lenT ?hq ?_); (case hq => walk_at "hk"))
  | ((with_reducible refine x_iteTe ?h ?_); (case h => exact rfl))
  | ((with_reducible refine x_iteFe ?h ?_); (case h => exact rfl))
  | walk_at "use"
  | with_reducible refine x_callS ?_
  | ((with_reducible refine x_lc ?_))
  | ((with_reducible refine x_for ?_))
  | ((with_reducible refine x_iR1 ?_))
  | ((with_reducible refine x_iL ?_))
  | ((with_reducible refine x_iZ ?_))
  | ((with_reducible refine x_yes ?_))
  | ((with_reducible refine' x_NIDt ?hq ?_); (case hq => assumption))
  | ((with_reducible refine' x_NIDf ?hq ?_); (case hq => assumption))
  | ((with_reducible refine' x_IIDf ?hq ?_); (case hq => assumption))
  | ((with_reducible refine' x_IIDt ?hq ?_); (case hq => assumption))
  | ((with_reducible refine' x_ixDs ?hd ?hq ?_); (case hd => assumption); (case hq => assumption))
  | ((with_reducible refine x_InSt ?h ?_); (case h => decide +kernel))
  | ((with_reducible refine x_InSf ?h ?_); (case h => decide +kernel))
  | ((with_reducible refine' x_notInI ?hq ?_); (case hq => walk_at "hk"))
  | ((with_reducible refine' x_inTt ?hq ?hv ?ha ?he ?_); (case hq => walk_at "hk"); (case hv => exact rfl); (case ha => exact rfl); (case he => decide +kernel))
  | ((with_reducible refine' x_inTf ?hq ?hv ?ha ?he ?_); (case hq => walk_at "hk"); (case hv => exact rfl); (case ha => exact rfl); (case he => decide +kernel))
  | ((with_reducible refine' x_slT ?hq ?hw ?_); (case hq => walk_at "hk"); (case hw => with_unfolding_all exact of_decide_eq_true rfl))
  | ((with_reducible refine' x_slL ?hq ?_); (case hq => walk_at "hk"))
  | ((with_reducible refine' x_catT ?hq ?hr ?n1 ?n2 ?hl ?_); (case hq => walk_at "hk"); (case hr => walk_at "hk"); (case n1 => exact List.cons_ne_nil _ _); (case n2 => exact List.cons_ne_nil _ _); (case hl => exact Nat.le_of_ble_eq_true rfl))
  | ((with_reducible refine x_bm ?_))
  | ((with_reducible refine x_lstRg ?_))
  | ((with_reducible refine x_rg1 ?_))
  | ((with_reducible refine And.intro ?h ?_); (case h => exact tyL (by assumption)))
  | dsimp only)
local macro_rules | `(tactic| walk_at "use") => `(tactic| fail)
local macro_rules | `(tactic| walk_at "rd") => `(tactic| repeat' (walk_at "rd1"))
local macro_rules | `(tactic| walk_at "ex") => `(tactic| first | exact Ex.refl _ | assumption | (refine' Ex.trans ?he (by assumption); (case he => walk_at "ex")))
local macro_rules | `(tactic| walk_at "rd1") => `(tactic| first
  | ((with_reducible refine x_iteDf ?h ?_); (case h => exact rfl))
  | ((with_reducible refine x_iteDt ?h ?_); (case h => exact rfl))
  | ((with_reducible refine x_iteNf ?h ?_); (case h => exact rfl))
  | ((with_reducible refine x_iteNt ?h ?_); (case h => exact rfl))
  | ((with_reducible refine x_isiI (r := true) ?h ?_); (case h => decide +kernel))
  | ((with_reducible refine x_isiI (r := false) ?h ?_); (case h => decide +kernel))
  | ((with_reducible refine x_isiS (r := true) ?h ?_); (case h => decide +kernel))
  | ((with_reducible refine x_isiS (r := false) ?h ?_); (case h => decide +kernel))
  | ((with_reducible refine x_isiB (r := true) ?h ?_); (case h => decide +kernel))
  | ((with_reducible refine x_isiB (r := false) ?h ?_); (case h => decide +kernel))
  | ((with_reducible refine' x_isiT (r := true) ?hp ?h ?_); (case hp => walk_at "hk"); (case h => decide +kernel))
  | ((with_reducible refine' x_isiT (r := false) ?hp ?h ?_); (case hp => walk_at "hk"); (case h => decide +kernel))
  | ((with_reducible refine' x_isiL (r := true) ?hp ?h ?_); (case hp => walk_at "hk"); (case h => decide +kernel))
  | ((with_reducible refine' x_isiL (r := false) ?hp ?h ?_); (case hp => walk_at "hk"); (case h => decide +kernel))
  | ((with_reducible refine' x_isi2L ?hp ?hl ?_); (case hp => walk_at "hk"); (case hl => walk_at "hk"))
  | ((with_reducible refine' x_isi2T ?hp ?hl ?_); (case hp => walk_at "hk"); (case hl => walk_at "hk"))
  | ((with_reducible refine' x_tupOfL ?hq ?_); (case hq => walk_at "hk"))
  | ((with_reducible refine' x_tupOfT ?hq ?_); (case hq => walk_at "hk"))
  | ((with_reducible refine x_lenS ?h ?_); (case h => exact Nat.le_of_ble_eq_true rfl))
  | ((with_reducible refine' x_all ?hq ?_); (case hq => walk_at "hk"))
  | with_reducible refine x_lenSet ?_)
local macro_rules | `(tactic| walk_at "nb") => `(tactic| first | exact NB.xd | exact NB.dK)
local macro_rules | `(tactic| walk_at "rd1") => `(tactic| first
  | with_reducible refine Er.x_par3 ?_
  | with_reducible refine Er.x_ex_3 ?_
  | with_reducible refine Er.x_revL0 ?_
  | ((with_reducible refine' Er.x_revL ?hq ?_); (case hq => walk_at "hk"))
  | with_reducible refine Er.x_dget2 ?_
  | with_reducible refine x_dict0 ?_
  | ((with_reducible refine x_pow ?hc ?_); (case hc => exact ⟨by decide, by decide, by decide⟩))
  | ((with_reducible refine And.intro ?h ?_); (case h => exact tyL (by walk_at "hk")))
  | ((with_reducible refine' Er.x_dis ?hq ?_); (case hq => walk_at "hk"))
  | ((with_reducible refine' Er.x_dgo ?hq ?he ?_); (case hq => walk_at "hk"); (case he => exact rfl)))
local macro_rules | `(tactic| walk_at "rd1") => `(tactic| first
  | with_reducible refine Er.x_callSS ?_
  | ((with_reducible refine Er.x_mulS2 ?h ?h0 ?h1 ?_); (case h => decide); (case h0 => decide); (case h1 => decide)))
local macro_rules | `(tactic| walk_at "rd1") => `(tactic| first
  | with_reducible refine Er.x_iR2 ?_
  | with_reducible refine Er.x_iEn ?_
  | with_reducible refine Er.x_cont ?_
  | ((with_reducible refine Er.x_isBt ?h ?_); (case h => exact rfl))
  | ((with_reducible refine Er.x_isBf ?h ?_); (case h => exact rfl))
  | ((with_reducible refine Er.x_isNBt ?h ?_); (case h => exact rfl))
  | ((with_reducible refine Er.x_isNBf ?h ?_); (case h => exact rfl))
  | with_reducible refine Er.x_isB ?_
  | with_reducible refine Er.x_isNB ?_)
local macro_rules | `(tactic| walk_at "nb") => `(tactic| exact NB.dT)
local macro_rules | `(tactic| walk_at "rd1") => `(tactic| first
  | with_reducible refine Er.x_dNotIn ?_
  | with_reducible refine Er.x_dPut ?_
  | with_reducible refine Er.x_dnewT ?_)

section
variable {P : Program} {w : World} {K : PySem.W.Frag} {mg : Str → Option Value} {base : Heap} {a : Ad} {H H1 : Hp} {Q : VK} {E : XK} {p b : Addr} {v u : V}
def sp_others_return : Sp := fun vs H Q _ => ∃ (rows : Int) (m : Nat), vs = [.int rows] ∧ 0 < rows ∧ Nt.Md rows = m ∧ m ≤ 1000000 ∧
  ∀ p q o ps H1, Ex H H1 → Nt.Ord 2 m o → o ≤ m → Nt.PL o ps → Er.NF H q → H1 p = some (.tup [.int (o : Nat), .ref q]) → H1 q = some (.lst (nv ps)) → Q (.ref p) H1
theorem ok_others_return (T : Txt K w mg a) : FnOk P w K mg base CX0 4 a.a_others_return a.fd_others_return ["rows"] sp_others_return := by
  refine T.F_others_return.ok sc_others_return (fun vs H Q E h => ?_) (fun cdv A outer s H vs Q E hr h => ?_)
  · obtain ⟨rows, m, rfl, _⟩ := h; rfl
  · obtain ⟨rows, m, rfl, hr0, hm, h1, k⟩ := h
    have G_odd_of := ok_odd_of (P := P) (base := base) T
    have G_order_paper := ok_order_paper (P := P) (base := base) T
    refine ⟨_, (pss_one (ps_ret (pe_call G_order_paper (hr.mono (by decide)) (by rfl) T.m_order_paper T.k_order_paper T.b_order_paper .nil pass0 (pa_cons pe_int (pa_cons (pe_call G_odd_of (hr.mono (by decide)) (by rfl) T.m_odd_of T.k_odd_of T.b_odd_of .nil pass0 (pa_cons (pv 0) pa_nil)) pa_nil))))), ?_⟩
    have md : rows - 1 + rows % 2 = (m : Int) := hm
    have mp := Nt.Md_pos hr0
    walk_at "rd"
    refine u_odd_of ?_
    rw [md]
    walk_at "rd"
    refine ⟨2, m, rfl, by omega, h1, by decide, ?_, fun p q o ps H1 e1 a1 a2 a3 a6 a4 a5 => k p q o ps H1 e1 a1 a2 a3 a6 a4 a5⟩
    have odd : m % 2 = 1 := by unfold Nt.Md at hm; omega
    have d1 := Nat.gcd_dvd_left (2 % (m : Int)).toNat m
    have d2 := Nat.gcd_dvd_right (2 % (m : Int)).toNat m
    by_cases e : m = 1
    · subst e; rfl
    · have m3 : 3 ≤ m := by omega
      have e2 : (2 % (m : Int)).toNat = 2 := by rw [Int.emod_eq_of_lt (by decide) (by omega)]; rfl
      rw [e2] at d1 d2 ⊢
      have le := Nat.le_of_dvd (by decide) d1
      have c : Nat.gcd 2 m = 0 ∨ Nat.gcd 2 m = 1 ∨ Nat.gcd 2 m = 2 := by omega
      rcases c with c | c | c
      · rw [c] at d1; obtain ⟨x, hx⟩ := d1; omega
      · exact c
      · rw [c] at d2; obtain ⟨x, hx⟩ := d2; omega
def sp_halve_return : Sp := fun vs H Q _ => ∃ (F R : Int) (m : Nat), vs = [.int F, .int R] ∧ 2 ≤ F ∧ F ≤ 3 ∧ 1 ≤ R ∧ Nt.lst F R = m ∧ m ≤ 1000000 ∧
  ∀ p q o ps H1, Ex H H1 → Nt.Ord F m o → o ≤ m → Nt.PL o ps → Er.NF H q → H1 p = some (.tup [.int (o : Nat), .ref q]) → H1 q = some (.lst (nv ps)) → Q (.ref p) H1
theorem ok_halve_return (T : Txt K w mg a) : FnOk P w K mg base CX0 4 a.a_halve_return a.fd_halve_return ["files", "rows"] sp_halve_return := by
  refine T.F_halve_return.ok sc_halve_return (fun vs H Q E h => ?_) (fun cdv A outer s H vs Q E hr h => ?_)
  · obtain ⟨F, R, m, rfl, _⟩ := h; rfl
  · obtain ⟨F, R, m, rfl, hF, hF3, hR, hm, h1, k⟩ := h
    have G_order_paper := ok_order_paper (P := P) (base := base) T
    have lp := Nt.lst_pos hF hR
    refine ⟨_, (pss_one (ps_ret (pe_call G_order_paper (hr.mono (by decide)) (by rfl) T.m_order_paper T.k_order_paper T.b_order_paper .nil pass0 (pa_cons (pv 0) (pa_cons (pe_op op_sub (pe_op op_mul (pv 0) (pv 1)) pe_int) pa_nil))))), ?_⟩
    have el : F * R - 1 = (m : Int) := hm
    walk_at "rd"
    rw [el]
    refine ⟨F, m, rfl, by omega, h1, by omega, Nt.gcdF hm (by omega) (by omega), fun p q o ps H1 e1 a1 a2 a3 a6 a4 a5 => k p q o ps H1 e1 a1 a2 a3 a6 a4 a5⟩
end
end My

set_option Elab.async false
set_option linter.all false
set_option maxRecDepth 100000
set_option maxHeartbeats 8000000
namespace My
open PySem PySem.Spec PyProof.Rows L2 Sx
local macro_rules | `(tactic| walk_at "nb") => `(tactic| first | exact NB.tup | exact NB.ints | exact NB.len (of_decide_eq_true rfl) | exact NB.at0b rfl | exact NB.at3b rfl | exact NB.ins | exact NB.own | exact NB.frz | exact NB.refs (by assumption) | assumption)
local macro_rules | `(tactic| walk_at "ne") => `(tactic| first | assumption | exact Ne.symm (by assumption) | exact ne_of_none (by assumption) (by assumption) | exact Ne.symm (ne_of_none (by assumption) (by assumption)))
local macro_rules | `(tactic| walk_at "hk") => `(tactic| first
  | assumption
  | exact upd_same
  | (refine' (upd_ne ?hkne).trans ?hkq; (case hkne => walk_at "ne"); (case hkq => walk_at "hk"))
  | (refine' Ex.kp (by assumption) _ _ ?hkq ?hkn; (case hkq => walk_at "hk"); (case hkn => walk_at "nb")))
local macro_rules | `(tactic| walk_at "rd1") => `(tactic| first
  | ((with_reducible refine' x_var ?hx ?_); (case hx => exact rfl))
  | with_reducible refine x_c ?_
  | with_reducible refine x_op ?_
  | with_reducible refine x_un ?_
  | with_reducible refine x_I0 ?_
  | with_reducible refine x_U ?_
  | ((with_reducible refine x_I ?hc ?_); (case hc => first | exact (by decide : (0 : Int) < _) | (show (0 : Int) < _; omega) | (show CMul _ _; first | exact .inl ⟨by omega, by omega⟩ | exact .inr ⟨by omega, by omega⟩) | (show CDiv _ _; exact ⟨by omega, by omega⟩) | (show CDivW _ _; exact wide_div (b := 200) (by omega) (by assumption) (by decide) (by decide)) | (show CDivW _ _; exact wide_div (b := 31) (by omega) (by omega) (by decide) (by decide))))
  | with_reducible refine x_EqI ?_
  | with_reducible refine x_NeI ?_
  | ((with_reducible refine x_EqSt ?h ?_); (case h => decide +kernel))
  | ((with_reducible refine x_EqSf ?h ?_); (case h => decide +kernel))
  | ((with_reducible refine x_NeSt ?h ?_); (case h => decide +kernel))
  | ((with_reducible refine x_NeSf ?h ?_); (case h => decide +kernel))
  | with_reducible refine x_EqS ?_
  | with_reducible refine x_NeS ?_
  | ((with_reducible refine' x_ixL ?hq ?hi ?_); (case hq => walk_at "hk"); (case hi => first | exact rfl | assumption))
  | ((with_reducible refine' x_ixT ?hq ?hi ?_); (case hq => walk_at "hk"); (case hi => first | exact rfl | assumption))
  | with_reducible refine x_chain ?_
  | with_reducible refine x_tup ?_
  | with_reducible refine x_lst ?_
  | ((with_reducible refine x_lenNew ?hl ?_); (case hl => exact Nat.le_of_ble_eq_true rfl); intro _ _ _ _ _)
  | ((with_reducible refine x_new ?_); intro _ _ _ _ _)
  | with_reducible refine x_sl ?_
  | with_reducible refine x_noPart ?_
  | with_reducible refine x_part ?_
  | with_reducible refine x_ex_int ?_
  | with_reducible refine x_ex_bl ?_
  | with_reducible refine x_ex_2 ?_
  | with_reducible refine x_test ?_
  | with_reducible refine x_B ?_
  | with_reducible refine x_and ?_
  | with_reducible refine x_or ?_
  | with_reducible refine x_not ?_
  | with_reducible refine x_andV ?_
  | with_reducible refine x_orV ?_
  | with_reducible refine x_notV ?_
  | with_reducible refine x_ifE ?_
  | with_reducible refine x_iteT ?_
  | with_reducible refine x_iteF ?_
  | ((with_reducible refine x_iteD ?_ ?_) <;> intro _)
  | ((with_reducible refine x_iteN ?_ ?_) <;> intro _)
  | with_reducible refine x_if ?_
  | with_reducible refine x_seq ?_
  | with_reducible refine x_next ?_
  | with_reducible refine x_asg ?_
  | with_reducible refine x_gName ?_
  | ((with_reducible refine' x_gTup ?hq ?hn ?_); (case hq => walk_at "hk"); (case hn => exact rfl))
  | with_reducible refine x_gCons ?_
  | with_reducible refine x_gNil ?_
  | ((with_reducible refine' x_gConsE ?h ?_); (case h => exact rfl))
  | ((with_reducible refine x_gNilE ?h ?_); (case h => exact rfl))
  | with_reducible refine x_ret ?_
  | with_reducible refine x_drop ?_
  | with_reducible refine x_par ?_
  | ((with_reducible refine' x_aug ?hx ?_); (case hx => exact rfl))
  | with_reducible refine x_ipI ?_
  | with_reducible refine x_augS ?_
  | with_reducible refine x_gSub ?_
  | ((with_reducible refine' x_setL ?hq ?hi ?_); (case hq => walk_at "hk"); (case hi => first | exact rfl | assumption))
  | with_reducible refine x_cons ?_
  | with_reducible refine x_nil ?_
  | with_reducible refine x_CB ?_
  | with_reducible refine x_abs ?_
  | with_reducible refine x_intI ?_
  | with_reducible refine x_intB ?_
  | ((with_reducible refine' x_lenL ?hq ?_); (case hq => walk_at "hk"))
  | ((with_reducible refine' x_lenT ?hq ?_); (case hq => walk_at "hk"))
  | ((with_reducible refine x_iteTe ?h ?_); (case h => exact rfl))
  | ((with_reducible refine x_iteFe ?h ?_); (case h => exact rfl))
  | walk_at "use"
  | with_reducible refine x_callS ?_
  | ((with_reducible refine x_lc ?_))
  | ((with_reducible refine x_for ?_))
  | ((with_reducible refine x_iR1 ?_))
  | ((with_reducible refine x_iL ?_))
  | ((with_reducible refine x_iZ ?_))
  | ((with_reducible refine x_yes ?_))
  | ((with_reducible refine' x_NIDt ?hq ?_); (case hq => assumption))
  | ((with_reducible refine' x_NIDf ?hq ?_); (case hq => assumption))
  | ((with_reducible refine' x_IIDf ?hq ?_); (case hq => assumption))
  | ((with_reducible refine' x_IIDt ?hq ?_); (case hq => assumption))
  | ((with_reducible refine' x_ixDs ?hd ?hq ?_); (case hd => assumption); (case hq => assumption))
  | ((with_reducible refine x_InSt ?h ?_); (case h => decide +kernel))
  | ((with_reducible refine x_InSf ?h ?_); (case h => decide +kernel))
  | ((with_reducible refine' x_notInI ?hq ?_); (case hq => walk_at "hk"))
  | ((with_reducible refine' x_inTt ?hq ?hv ?ha ?he ?_); (case hq => walk_at "hk"); (case hv => exact rfl); (case ha => exact rfl); (case he => decide +kernel))
  | ((with_reducible refine' x_inTf ?hq ?hv ?ha ?he ?_); (case hq => walk_at "hk"); (case hv => exact rfl); (case ha => exact rfl); (case he => decide +kernel))
  | ((with_reducible refine' x_slT ?hq ?hw ?_); (case hq => walk_at "hk"); (case hw => with_unfolding_all exact of_decide_eq_true rfl))
  | ((with_reducible refine' x_slL ?hq ?_); (case hq => walk_at "hk"))
  | ((with_reducible refine' x_catT ?hq ?hr ?n1 ?n2 ?hl ?_); (case hq => walk_at "hk"); (case hr => walk_at "hk"); (case n1 => exact List.cons_ne_nil _ _); (case n2 => exact List.cons_ne_nil _ _); (case hl => exact Nat.le_of_ble_eq_true rfl))
  | ((with_reducible refine x_bm ?_))
  | ((with_reducible refine x_lstRg ?_))
  | ((with_reducible refine x_rg1 ?_))
  | ((with_reducible refine And.intro ?h ?_); (case h => exact tyL (by assumption)))
  | dsimp only)
local macro_rules | `(tactic| walk_at "use") => `(tactic| fail)
local macro_rules | `(tactic| walk_at "rd") => `(tactic| repeat' (walk_at "rd1"))
local macro_rules | `(tactic| walk_at "ex") => `(tactic| first | exact Ex.refl _ | assumption | (refine' Ex.trans ?he (by assumption); (case he => walk_at "ex")))
local macro_rules | `(tactic| walk_at "rd1") => `(tactic| first
  | ((with_reducible refine x_iteDf ?h ?_); (case h => exact rfl))
  | ((with_reducible refine x_iteDt ?h ?_); (case h => exact rfl))
  | ((with_reducible refine x_iteNf ?h ?_); (case h => exact rfl))
  | ((with_reducible refine x_iteNt ?h ?_); (case h => exact rfl))
  | ((with_reducible refine x_isiI (r := true) ?h ?_); (case h => decide +kernel))
  | ((with_reducible refine x_isiI (r := false) ?h ?_); (case h => decide +kernel))
  | ((with_reducible refine x_isiS (r := true) ?h ?_); (case h => decide +kernel))
  | ((with_reducible refine x_isiS (r := false) ?h ?_); (case h => decide +kernel))
  | ((with_reducible refine x_isiB (r := true) ?h ?_); (case h => decide +kernel))
  | ((with_reducible refine x_isiB (r := false) ?h ?_); (case h => decide +kernel))
  | ((with_reducible refine' x_isiT (r := true) ?hp ?h ?_); (case hp => walk_at "hk"); (case h => decide +kernel))
  | ((with_reducible refine' x_isiT (r := false) ?hp ?h ?_); (case hp => walk_at "hk"); (case h => decide +kernel))
  | ((with_reducible refine' x_isiL (r := true) ?hp ?h ?_); (case hp => walk_at "hk"); (case h => decide +kernel))
  | ((with_reducible refine' x_isiL (r := false) ?hp ?h ?_); (case hp => walk_at "hk"); (case h => decide +kernel))
  | ((with_reducible refine' x_isi2L ?hp ?hl ?_); (case hp => walk_at "hk"); (case hl => walk_at "hk"))
  | ((with_reducible refine' x_isi2T ?hp ?hl ?_); (case hp => walk_at "hk"); (case hl => walk_at "hk"))
  | ((with_reducible refine' x_tupOfL ?hq ?_); (case hq => walk_at "hk"))
  | ((with_reducible refine' x_tupOfT ?hq ?_); (case hq => walk_at "hk"))
  | ((with_reducible refine x_lenS ?h ?_); (case h => exact Nat.le_of_ble_eq_true rfl))
  | ((with_reducible refine' x_all ?hq ?_); (case hq => walk_at "hk"))
  | with_reducible refine x_lenSet ?_)
local macro_rules | `(tactic| walk_at "nb") => `(tactic| first | exact NB.xd | exact NB.dK)
local macro_rules | `(tactic| walk_at "rd1") => `(tactic| first
  | with_reducible refine Er.x_par3 ?_
  | with_reducible refine Er.x_ex_3 ?_
  | with_reducible refine Er.x_revL0 ?_
  | ((with_reducible refine' Er.x_revL ?hq ?_); (case hq => walk_at "hk"))
  | with_reducible refine Er.x_dget2 ?_
  | with_reducible refine x_dict0 ?_
  | ((with_reducible refine x_pow ?hc ?_); (case hc => exact ⟨by decide, by decide, by decide⟩))
  | ((with_reducible refine And.intro ?h ?_); (case h => exact tyL (by walk_at "hk")))
  | ((with_reducible refine' Er.x_dis ?hq ?_); (case hq => walk_at "hk"))
  | ((with_reducible refine' Er.x_dgo ?hq ?he ?_); (case hq => walk_at "hk"); (case he => exact rfl)))
local macro_rules | `(tactic| walk_at "rd1") => `(tactic| first
  | with_reducible refine Er.x_callSS ?_
  | ((with_reducible refine Er.x_mulS2 ?h ?h0 ?h1 ?_); (case h => decide); (case h0 => decide); (case h1 => decide)))
local macro_rules | `(tactic| walk_at "rd1") => `(tactic| first
  | with_reducible refine Er.x_iR2 ?_
  | with_reducible refine Er.x_iEn ?_
  | with_reducible refine Er.x_cont ?_
  | ((with_reducible refine Er.x_isBt ?h ?_); (case h => exact rfl))
  | ((with_reducible refine Er.x_isBf ?h ?_); (case h => exact rfl))
  | ((with_reducible refine Er.x_isNBt ?h ?_); (case h => exact rfl))
  | ((with_reducible refine Er.x_isNBf ?h ?_); (case h => exact rfl))
  | with_reducible refine Er.x_isB ?_
  | with_reducible refine Er.x_isNB ?_)
local macro_rules | `(tactic| walk_at "nb") => `(tactic| exact NB.dT)
local macro_rules | `(tactic| walk_at "rd1") => `(tactic| first
  | with_reducible refine Er.x_dNotIn ?_
  | with_reducible refine Er.x_dPut ?_
  | with_reducible refine Er.x_dnewT ?_)

section
variable {P : Program} {w : World} {K : PySem.W.Frag} {mg : Str → Option Value} {base : Heap} {a : Ad} {H H1 : Hp} {Q : VK} {E : XK} {p b : Addr} {v u : V}
/-! the law's own greatest common divisor -/
def sp_Ldivisor : Sp := fun vs H Q _ => ∃ i j : Nat, vs = [.int i, .int j] ∧ Q (.int (Nat.gcd j i : Nat)) H
theorem ok_Ldivisor (T : Txt K w mg a) : FnOk P w K mg base CX0 1 a.a_Ldivisor a.fd_Ldivisor ["_law_one_here", "_law_other"] sp_Ldivisor := by
  refine T.F_Ldivisor.ok sc_Ldivisor (fun vs H Q E h => ?_) (fun cdv A outer s H vs Q E hr h => ?_)
  · obtain ⟨i, j, rfl, _⟩ := h; rfl
  · obtain ⟨i, j, rfl, k⟩ := h
    refine ⟨_, (pss_cons (ps_while PassesOwn.never (pt_cmpR op_gt (pv 1) pe_int (nomark _)) (pss_one (ps_par (i := 0) (j := 1) rfl sc_Ldivisor.nd rfl rfl (by decide) rfl rfl (pa_cons (pv 1) (pa_cons (pe_op op_mod (pe_callTy c_int (by rfl) T.n_int (by decide +kernel) (pa_cons (pv 0) pa_nil)) (pv 1)) pa_nil)) rfl)))
      (pss_one (ps_ret (pv 0)))), ?_⟩
    walk_at "rd"
    refine Er.x_while (fun σ H' => H' = H ∧ ∃ x y : Nat, σ = [some (.int x), some (.int y)] ∧ Nat.gcd y x = Nat.gcd j i) (fun (σ : L2.St) (_ : Hp) => match σ[1]? with | some (some (V.int i)) => i.toNat | _ => 0) ⟨rfl, _, _, rfl, rfl⟩ ?_
    rintro σ H' ⟨rfl, x, y, rfl, g⟩
    walk_at "rd"
    · rename_i hy
      refine Er.x_goOn ?_
      walk_at "rd"
      have e : ((x : Int) % (y : Int)) = ((x % y : Nat) : Int) := by omega
      refine ⟨⟨rfl, y, x % y, ?_, ?_⟩, ?_⟩
      · show [some (V.int y), some (V.int ((x : Int) % (y : Int)))] = _
        rw [e]
      · rw [← Nat.gcd_rec, g]
      · have := Nat.mod_lt x (show 0 < y by omega)
        show ((x : Int) % (y : Int)).toNat < (y : Int).toNat
        omega
    · rename_i hy
      obtain rfl : y = 0 := by omega
      walk_at "rd"
      rw [Nat.gcd_zero_left] at g
      rw [← g] at k
      exact k
/-! the law's own primes -/
def sp_Lis_prime : Sp := fun vs H Q _ => ∃ n : Nat, vs = [.int n] ∧ 2 ≤ n ∧ n ≤ 1000000 ∧ (Nt.Pri n → Q (.bl true) H) ∧ (¬ Nt.Pri n → Q (.bl false) H)
theorem ok_Lis_prime (T : Txt K w mg a) : FnOk P w K mg base CX0 1 a.a_Lis_prime a.fd_Lis_prime ["_law_number"] sp_Lis_prime := by
  refine T.F_Lis_prime.ok sc_Lis_prime (fun vs H Q E h => ?_) (fun cdv A outer s H vs Q E hr h => ?_)
  · obtain ⟨n, rfl, _⟩ := h; rfl
  · obtain ⟨n, rfl, n2, nl, k1, k0⟩ := h
    refine ⟨_, (pss_cons (ps_for PassesOwn.never rfl (pi_range2 (by rfl) T.n_range (pa_cons pe_int (pa_cons (pv 0) pa_nil))) (pg_name (i := 1) sc_Lis_prime.nd rfl (Or.inl rfl)) (pss_cons (ps_if (pt_cmpR op_gt (pe_op op_mul (pv 1) (pv 1)) (pv 0) (nomark _)) (pss_one (ps_ret pe_bl)) pss_nil)
      (pss_one (ps_if (pt_cmpR op_eq (pe_op op_mod (pe_callTy c_int (by rfl) T.n_int (by decide +kernel) (pa_cons (pv 0) pa_nil)) (pv 1)) pe_int (nomark _)) (pss_one (ps_ret pe_bl)) pss_nil))))
      (pss_one (ps_ret (pe_cmpR op_gt (pv 0) pe_int (nomark _))))), ?_⟩
    walk_at "rd"
    refine Er.for_rng2 (lo := 2) (m := (n : Int)) (by omega) (by omega) (by decide) (by decide) (fun i σ H' => H' = H ∧ (∃ v1 : Option V, σ = [some (.int n), v1]) ∧ ∀ q, 2 ≤ q → q < 2 + i → ¬ q ∣ n) ⟨rfl, ⟨_, rfl⟩, fun q h1 h2 => by omega⟩ (fun i σ H' hi h => ?_) (fun σ H' h => ?_)
    · obtain ⟨rfl, ⟨v1, rfl⟩, nd⟩ := h
      have e2 : (2 + (i : Int)) = ((2 + i : Nat) : Int) := by omega
      rw [e2]
      have sq : (((2 + i : Nat) : Int) * ((2 + i : Nat) : Int)) = (((2 + i) * (2 + i) : Nat) : Int) := by rw [Int.natCast_mul]
      walk_at "rd"
      · rename_i hq
        rw [sq] at hq
        exact k1 (Nt.Pri.sq n2 (d := 2 + i) nd (by omega))
      · rename_i hd
        have hd' := Nt.mod0.mp hd
        exact k0 (Nt.Pri.no (by omega) (by omega) hd')
      · rename_i hq hd
        refine ⟨rfl, ⟨_, rfl⟩, fun q h1 h2 => ?_⟩
        by_cases e : q = 2 + i
        · subst e; exact fun z => hd (Nt.mod0.mpr z)
        · exact nd q h1 (by omega)
    · obtain ⟨rfl, ⟨v1, rfl⟩, nd⟩ := h
      walk_at "rd"
      rw [show decide ((n : Int) > 1) = true from decide_eq_true (by omega)]
      exact k1 (Nt.Pri.all n2 fun q h1 h2 => nd q h1 (by omega))
def sp_Lprimes : Sp := fun vs H Q _ => ∃ n : Nat, vs = [.int n] ∧ 0 < n ∧ n ≤ 1000000 ∧ ∀ p ps H1, Ex H H1 → H p = none → Nt.PL n ps → H1 p = some (.lst (nv ps)) → Q (.ref p) H1
theorem u_Lprimes {n : Nat} (h0 : 0 < n) (h1 : n ≤ 1000000) (k : ∀ p ps H1, Ex H H1 → H p = none → Nt.PL n ps → H1 p = some (.lst (nv ps)) → Q (.ref p) H1) : sp_Lprimes [.int n] H Q E := ⟨n, rfl, h0, h1, k⟩
theorem ok_Lprimes (T : Txt K w mg a) : FnOk P w K mg base CX0 2 a.a_Lprimes a.fd_Lprimes ["_law_number"] sp_Lprimes := by
  refine T.F_Lprimes.ok sc_Lprimes (fun vs H Q E h => ?_) (fun cdv A outer s H vs Q E hr h => ?_)
  · obtain ⟨n, rfl, _⟩ := h; rfl
  · obtain ⟨n, rfl, h0, h1, k⟩ := h
    have G_Lis_prime := ok_Lis_prime (P := P) (base := base) T
    refine ⟨_, (pss_one (ps_ret (pe_lc (own := [("_law_one_here", 1)]) rfl sc_Lprimes.nd (pi_range2 (by rfl) T.n_range (pa_cons pe_int (pa_cons (pe_op op_add (pv 0) pe_int) pa_nil))) (blkOk_by (own := [("_law_one_here", 1)]) (N := ["_law_number", "_law_one_here"]) (sc := defScope s_Lprimes) (by decide +kernel)) (fun _ _ _ _ _ => (pg_name (i := 1) sc_Lprimes.nd rfl (Or.inl rfl) (Or.inr rfl))) (fun _ _ _ _ _ => (pts_one (PW.pt (pw_and (pt_cmpR op_eq (pe_op op_mod (pe_callTy c_int (by rfl) T.n_int (by decide +kernel) (pa_cons (pv 0) pa_nil)) (pv 1)) pe_int (nomark _)) (pw_and1 (pt_val (pe_call G_Lis_prime (hr.mono (by decide)) (by rfl) T.m_Lis_prime T.k_Lis_prime T.b_Lis_prime .nil pass0 (pa_cons (pv 1) pa_nil)))))))) (fun _ _ _ _ _ => (pv 1))))), ?_⟩
    walk_at "rd"
    refine Er.lc_rng2 (lo := 2) (m := (n : Int) + 1) (by omega) (by omega) (by decide) (by decide) (fun i acc _ => ∃ ps, acc = nv ps ∧ Nt.PU n ps (2 + i) ∧ 2 + (i : Int) ≤ n + 2) ⟨[], rfl, Nt.PU.start n, by omega⟩ (fun _ _ _ _ _ h => h) (fun i acc _ h => ?_) (fun x => rfl) (fun i acc H2 hi e2 hI kk k1 k2 => ?_) (fun p ys H2 e2 hp hy hI => ?_)
    · obtain ⟨ps, rfl, pu, hb⟩ := h
      have := pu.len
      exact ⟨nv_nb, by rw [nv_len]; exact Nat.lt_of_le_of_lt (show _ ≤ 1000000 + 2 by omega) (by decide)⟩
    · obtain ⟨ps, rfl, pu, hb⟩ := hI
      have ed : (2 + (i : Int)) = ((2 + i : Nat) : Int) := by omega
      rw [ed]
      walk_at "rd"
      · rename_i hd
        have hd' := Nt.mod0.mp hd
        refine ⟨2 + i, rfl, by omega, by omega, fun pr => ?_, fun pr => ?_⟩
        · walk_at "rd"
          refine k1 _ _ (Ex.refl _) ⟨ps ++ [2 + i], nv_app _ _, ?_, by omega⟩
          exact pu.yes pr hd'
        · walk_at "rd"
          refine k2 _ (Ex.refl _) ⟨ps, rfl, pu.no fun z => pr z.1, by omega⟩
      · rename_i hd
        refine k2 _ (Ex.refl _) ⟨ps, rfl, pu.no fun z => hd (Nt.mod0.mpr z.2), by omega⟩
    · obtain ⟨ps, rfl, pu, hb⟩ := hI
      refine k p ps H2 e2 hp ?_ hy
      rcases Nat.lt_or_ge n 2 with z | z
      · have : n = 1 := by omega
        subst this
        refine ⟨fun p m => ?_, fun p a b => ?_, pu.asc⟩
        · have := (pu.mem p).mp m; exact ⟨this.1, this.2.1⟩
        · exact (pu.mem p).mpr ⟨a, b, by have := Nat.le_of_dvd (by decide) b; omega⟩
      · refine Nt.PU.fin h0 ?_
        rw [show n + 1 = 2 + ((n : Int) + 1 - 2).toNat by omega]
        exact pu
end
end My

set_option Elab.async false
set_option linter.all false
set_option maxRecDepth 100000
set_option maxHeartbeats 8000000
namespace My
open PySem PySem.Spec PyProof.Rows L2 Sx
local macro_rules | `(tactic| walk_at "nb") => `(tactic| first | exact NB.tup | exact NB.ints | exact NB.len (of_decide_eq_true rfl) | exact NB.at0b rfl | exact NB.at3b rfl | exact NB.ins | exact NB.own | exact NB.frz | exact NB.refs (by assumption) | assumption)
local macro_rules | `(tactic| walk_at "ne") => `(tactic| first | assumption | exact Ne.symm (by assumption) | exact ne_of_none (by assumption) (by assumption) | exact Ne.symm (ne_of_none (by assumption) (by assumption)))
local macro_rules | `(tactic| walk_at "hk") => `(tactic| first
  | assumption
  | exact upd_same
  | (refine' (upd_ne ?hkne).trans ?hkq; (case hkne => walk_at "ne"); (case hkq => walk_at "hk"))
  | (refine' Ex.kp (by assumption) _ _ ?hkq ?hkn; (case hkq => walk_at "hk"); (case hkn => walk_at "nb")))
local macro_rules | `(tactic| walk_at "rd1") => `(tactic| first
  | ((with_reducible refine' x_var ?hx ?_); (case hx => exact rfl))
  | with_reducible refine x_c ?_
  | with_reducible refine x_op ?_
  | with_reducible refine x_un ?_
  | with_reducible refine x_I0 ?_
  | with_reducible refine x_U ?_
  | ((with_reducible refine x_I ?hc ?_); (case hc => first | exact (by decide : (0 : Int) < _) | (show (0 : Int) < _; omega) | (show CMul _ _; first | exact .inl ⟨by omega, by omega⟩ | exact .inr ⟨by omega, by omega⟩) | (show CDiv _ _; exact ⟨by omega, by omega⟩) | (show CDivW _ _; exact wide_div (b := 200) (by omega) (by assumption) (by decide) (by decide)) | (show CDivW _ _; exact wide_div (b := 31) (by omega) (by omega) (by decide) (by decide))))
  | with_reducible refine x_EqI ?_
  | with_reducible refine x_NeI ?_
  | ((with_reducible refine x_EqSt ?h ?_); (case h => decide +kernel))
  | ((with_reducible refine x_EqSf ?h ?_); (case h => decide +kernel))
  | ((with_reducible refine x_NeSt ?h ?_); (case h => decide +kernel))
  | ((with_reducible refine x_NeSf ?h ?_); (case h => decide +kernel))
  | with_reducible refine x_EqS ?_
  | with_reducible refine x_NeS ?_
  | ((with_reducible refine' x_ixL ?hq ?hi ?_); (case hq => walk_at "hk"); (case hi => first | exact rfl | assumption))
  | ((with_reducible refine' x_ixT ?hq ?hi ?_); (case hq => walk_at "hk"); (case hi => first | exact rfl | assumption))
  | with_reducible refine x_chain ?_
  | with_reducible refine x_tup ?_
  | with_reducible refine x_lst ?_
  | ((with_reducible refine x_lenNew ?hl ?_); (case hl => exact Nat.le_of_ble_eq_true rfl); intro _ _ _ _ _)
  | ((with_reducible refine x_new ?_); intro _ _ _ _ _)
  | with_reducible refine x_sl ?_
  | with_reducible refine x_noPart ?_
  | with_reducible refine x_part ?_
  | with_reducible refine x_ex_int ?_
  | with_reducible refine x_ex_bl ?_
  | with_reducible refine x_ex_2 ?_
  | with_reducible refine x_test ?_
  | with_reducible refine x_B ?_
  | with_reducible refine x_and ?_
  | with_reducible refine x_or ?_
  | with_reducible refine x_not ?_
  | with_reducible refine x_andV ?_
  | with_reducible refine x_orV ?_
  | with_reducible refine x_notV ?_
  | with_reducible refine x_ifE ?_
  | with_reducible refine x_iteT ?_
  | with_reducible refine x_iteF ?_
  | ((with_reducible refine x_iteD ?_ ?_) <;> intro _)
  | ((with_reducible refine x_iteN ?_ ?_) <;> intro _)
  | with_reducible refine x_if ?_
  | with_reducible refine x_seq ?_
  | with_reducible refine x_next ?_
  | with_reducible refine x_asg ?_
  | with_reducible refine x_gName ?_
  | ((with_reducible refine' x_gTup ?hq ?hn ?_); (case hq => walk_at "hk"); (case hn => exact rfl))
  | with_reducible refine x_gCons ?_
  | with_reducible refine x_gNil ?_
  | ((with_reducible refine' x_gConsE ?h ?_); (case h => exact rfl))
  | ((with_reducible refine x_gNilE ?h ?_); (case h => exact rfl))
  | with_reducible refine x_ret ?_
  | with_reducible refine x_drop ?_
  | with_reducible refine x_par ?_
  | ((with_reducible refine' x_aug ?hx ?_); (case hx => exact rfl))
  | with_reducible refine x_ipI ?_
  | with_reducible refine x_augS ?_
  | with_reducible refine x_gSub ?_
  | ((with_reducible refine' x_setL ?hq ?hi ?_); (case hq => walk_at "hk"); (case hi => first | exact rfl | assumption))
  | with_reducible refine x_cons ?_
  | with_reducible refine x_nil ?_
  | with_reducible refine x_CB ?_
  | with_reducible refine x_abs ?_
  | with_reducible refine x_intI ?_
  | with_reducible refine x_intB ?_
  | ((with_reducible refine' x_lenL ?hq ?_); (case hq => walk_at "hk"))
  | ((with_reducible refine' x_lenT ?hq ?_); (case hq => walk_at "hk"))
  | ((with_reducible refine x_iteTe ?h ?_); (case h => exact rfl))
  | ((with_reducible refine x_iteFe ?h ?_); (case h => exact rfl))
  | walk_at "use"
  | with_reducible refine x_callS ?_
  | ((with_reducible refine x_lc ?_))
  | ((with_reducible refine x_for ?_))
  | ((with_reducible refine x_iR1 ?_))
  | ((with_reducible refine x_iL ?_))
  | ((with_reducible refine x_iZ ?_))
  | ((with_reducible refine x_yes ?_))
  | ((with_reducible refine' x_NIDt ?hq ?_); (case hq => assumption))
  | ((with_reducible refine' x_NIDf ?hq ?_); (case hq => assumption))
  | ((with_reducible refine' x_IIDf ?hq ?_); (case hq => assumption))
  | ((with_reducible refine' x_IIDt ?hq ?_); (case hq => assumption))
  | ((with_reducible refine' x_ixDs ?hd ?hq ?_); (case hd => assumption); (case hq => assumption))
  | ((with_reducible refine x_InSt ?h ?_); (case h => decide +kernel))
  | ((with_reducible refine x_InSf ?h ?_); (case h => decide +kernel))
  | ((with_reducible refine' x_notInI ?hq ?_); (case hq => walk_at "hk"))
  | ((with_reducible refine' x_inTt ?hq ?hv ?ha ?he ?_); (case hq => walk_at "hk"); (case hv => exact rfl); (case ha => exact rfl); (case he => decide +kernel))
  | ((with_reducible refine' x_inTf ?hq ?hv ?ha ?he ?_); (case hq => walk_at "hk"); (case hv => exact rfl); (case ha => exact rfl); (case he => decide +kernel))
  | ((with_reducible refine' x_slT ?hq ?hw ?_); (case hq => walk_at "hk"); (case hw => with_unfolding_all exact of_decide_eq_true rfl))
  | ((with_reducible refine' x_slL ?hq ?_); (case hq => walk_at "hk"))
  | ((with_reducible refine' x_catT ?hq ?hr ?n1 ?n2 ?hl ?_); (case hq => walk_at "hk"); (case hr => walk_at "hk"); (case n1 => exact List.cons_ne_nil _ _); (case n2 => exact List.cons_ne_nil _ _); (case hl => exact Nat.le_of_ble_eq_true rfl))
  | ((with_reducible refine x_bm ?_))
  | ((with_reducible refine x_lstRg ?_))
  | ((with_reducible refine x_rg1 ?_))
  | ((with_reducible refine And.intro ?h ?_); (case h => exact tyL (by assumption)))
  | dsimp only)
local macro_rules | `(tactic| walk_at "use") => `(tactic| fail)
local macro_rules | `(tactic| walk_at "rd") => `(tactic| repeat' (walk_at "rd1"))
local macro_rules | `(tactic| walk_at "ex") => `(tactic| first | exact Ex.refl _ | assumption | (refine' Ex.trans ?he (by assumption); (case he => walk_at "ex")))
local macro_rules | `(tactic| walk_at "rd1") => `(tactic| first
  | ((with_reducible refine x_iteDf ?h ?_); (case h => exact rfl))
  | ((with_reducible refine x_iteDt ?h ?_); (case h => exact rfl))
  | ((with_reducible refine x_iteNf ?h ?_); (case h => exact rfl))
  | ((with_reducible refine x_iteNt ?h ?_); (case h => exact rfl))
  | ((with_reducible refine x_isiI (r := true) ?h ?_); (case h => decide +kernel))
  | ((with_reducible refine x_isiI (r := false) ?h ?_); (case h => decide +kernel))
  | ((with_reducible refine x_isiS (r := true) ?h ?_); (case h => decide +kernel))
  | ((with_reducible refine x_isiS (r := false) ?h ?_); (case h => decide +kernel))
  | ((with_reducible refine x_isiB (r := true) ?h ?_); (case h => decide +kernel))
  | ((with_reducible refine x_isiB (r := false) ?h ?_); (case h => decide +kernel))
  | ((with_reducible refine' x_isiT (r := true) ?hp ?h ?_); (case hp => walk_at "hk"); (case h => decide +kernel))
  | ((with_reducible refine' x_isiT (r := false) ?hp ?h ?_); (case hp => walk_at "hk"); (case h => decide +kernel))
  | ((with_reducible refine' x_isiL (r := true) ?hp ?h ?_); (case hp => walk_at "hk"); (case h => decide +kernel))
  | ((with_reducible refine' x_isiL (r := false) ?hp ?h ?_); (case hp => walk_at "hk"); (case h => decide +kernel))
  | ((with_reducible refine' x_isi2L ?hp ?hl ?_); (case hp => walk_at "hk"); (case hl => walk_at "hk"))
  | ((with_reducible refine' x_isi2T ?hp ?hl ?_); (case hp => walk_at "hk"); (case hl => walk_at "hk"))
  | ((with_reducible refine' x_tupOfL ?hq ?_); (case hq => walk_at "hk"))
  | ((with_reducible refine' x_tupOfT ?hq ?_); (case hq => walk_at "hk"))
  | ((with_reducible refine x_lenS ?h ?_); (case h => exact Nat.le_of_ble_eq_true rfl))
  | ((with_reducible refine' x_all ?hq ?_); (case hq => walk_at "hk"))
  | with_reducible refine x_lenSet ?_)
local macro_rules | `(tactic| walk_at "nb") => `(tactic| first | exact NB.xd | exact NB.dK)
local macro_rules | `(tactic| walk_at "rd1") => `(tactic| first
  | with_reducible refine Er.x_par3 ?_
  | with_reducible refine Er.x_ex_3 ?_
  | with_reducible refine Er.x_revL0 ?_
  | ((with_reducible refine' Er.x_revL ?hq ?_); (case hq => walk_at "hk"))
  | with_reducible refine Er.x_dget2 ?_
  | with_reducible refine x_dict0 ?_
  | ((with_reducible refine x_pow ?hc ?_); (case hc => exact ⟨by decide, by decide, by decide⟩))
  | ((with_reducible refine And.intro ?h ?_); (case h => exact tyL (by walk_at "hk")))
  | ((with_reducible refine' Er.x_dis ?hq ?_); (case hq => walk_at "hk"))
  | ((with_reducible refine' Er.x_dgo ?hq ?he ?_); (case hq => walk_at "hk"); (case he => exact rfl)))
local macro_rules | `(tactic| walk_at "rd1") => `(tactic| first
  | with_reducible refine Er.x_callSS ?_
  | ((with_reducible refine Er.x_mulS2 ?h ?h0 ?h1 ?_); (case h => decide); (case h0 => decide); (case h1 => decide)))
local macro_rules | `(tactic| walk_at "rd1") => `(tactic| first
  | with_reducible refine Er.x_iR2 ?_
  | with_reducible refine Er.x_iEn ?_
  | with_reducible refine Er.x_cont ?_
  | ((with_reducible refine Er.x_isBt ?h ?_); (case h => exact rfl))
  | ((with_reducible refine Er.x_isBf ?h ?_); (case h => exact rfl))
  | ((with_reducible refine Er.x_isNBt ?h ?_); (case h => exact rfl))
  | ((with_reducible refine Er.x_isNBf ?h ?_); (case h => exact rfl))
  | with_reducible refine Er.x_isB ?_
  | with_reducible refine Er.x_isNB ?_)
local macro_rules | `(tactic| walk_at "nb") => `(tactic| exact NB.dT)
local macro_rules | `(tactic| walk_at "rd1") => `(tactic| first
  | with_reducible refine Er.x_dNotIn ?_
  | with_reducible refine Er.x_dPut ?_
  | with_reducible refine Er.x_dnewT ?_)

section
variable {P : Program} {w : World} {K : PySem.W.Frag} {mg : Str → Option Value} {base : Heap} {a : Ad} {H H1 : Hp} {Q : VK} {E : XK} {p b : Addr} {v u : V}
/-! two that are alike, or not -/
def sp_Lalike (K : PySem.W.Frag) : Sp := fun vs H Q _ => ∃ (v u : V) (r : Bool), vs = [v, u] ∧ Er.AlB K H v u r ∧ ∀ H1, Ex H H1 → Q (.bl r) H1
theorem u_LalikeB {r : Bool} (h : Er.AlB K H v u r) (k : ∀ H1, Ex H H1 → Q (.bl r) H1) : sp_Lalike K [v, u] H Q E := ⟨v, u, r, rfl, h, k⟩
theorem u_Lalike (h : Er.Alike K H v u) (k : ∀ H1, Ex H H1 → Q (.bl true) H1) : sp_Lalike K [v, u] H Q E := ⟨v, u, true, rfl, h.alB, k⟩
theorem ok_Lalike (T : Txt K w mg a) : Ow.FnG P w K mg base CX0 1 a.a_Lalike a.fd_Lalike ["_law_found", "_law_due"] (sp_Lalike K) := by
  refine Ow.fnG_of T.F_Lalike sc_Lalike (fun vs H Q E h => ?_) (fun cdv A outer s H vs Q E hG hr h => ?_)
  · obtain ⟨v, u, r, rfl, _⟩ := h; rfl
  · obtain ⟨v, u, r, rfl, ⟨c, he, hc0, hc1⟩, k⟩ := h
    refine ⟨_, (pss_one (ps_ret (pe_and (pe_cmpR (Er.op_eqW hr.units) (pv 0) (pv 1) (nomark _)) (pe_one (pe_cmpR op_eq (pe_callB (Er.call_reprY hG hr.units) (by rfl) T.n_repr (by decide +kernel) (pa_cons (pv 0) pa_nil)) (pe_callB (Er.call_reprY hG hr.units) (by rfl) T.n_repr (by decide +kernel) (pa_cons (pv 1) pa_nil)) (nomark _)))))), ?_⟩
    walk_at "rd"
    refine he H _ (Ex.refl _) ?_
    refine x_ex_bl (x_iteB (fun h => ?_) (fun h => ?_))
    · obtain ⟨z1, z2, h1, h2, rfl⟩ := hc1 h
      walk_at "rd"
      refine h1 H _ (Ex.refl _) ?_
      walk_at "rd"
      refine h2 H _ (Ex.refl _) ?_
      walk_at "rd"
      exact k _ (Ex.refl _)
    · rw [hc0 h] at k
      walk_at "rd"
      exact k _ (Ex.refl _)
end
end My

set_option Elab.async false
set_option linter.all false
set_option maxRecDepth 100000
set_option maxHeartbeats 8000000
namespace My
open PySem PySem.Spec PyProof.Rows L2 Sx
local macro_rules | `(tactic| walk_at "nb") => `(tactic| first | exact NB.tup | exact NB.ints | exact NB.len (of_decide_eq_true rfl) | exact NB.at0b rfl | exact NB.at3b rfl | exact NB.ins | exact NB.own | exact NB.frz | exact NB.refs (by assumption) | assumption)
local macro_rules | `(tactic| walk_at "ne") => `(tactic| first | assumption | exact Ne.symm (by assumption) | exact ne_of_none (by assumption) (by assumption) | exact Ne.symm (ne_of_none (by assumption) (by assumption)))
local macro_rules | `(tactic| walk_at "hk") => `(tactic| first
  | assumption
  | exact upd_same
  | (refine' (upd_ne ?hkne).trans ?hkq; (case hkne => walk_at "ne"); (case hkq => walk_at "hk"))
  | (refine' Ex.kp (by assumption) _ _ ?hkq ?hkn; (case hkq => walk_at "hk"); (case hkn => walk_at "nb")))
local macro_rules | `(tactic| walk_at "rd1") => `(tactic| first
  | ((with_reducible refine' x_var ?hx ?_); (case hx => exact rfl))
  | with_reducible refine x_c ?_
  | with_reducible refine x_op ?_
  | with_reducible refine x_un ?_
  | with_reducible refine x_I0 ?_
  | with_reducible refine x_U ?_
  | ((with_reducible refine x_I ?hc ?_); (case hc => first | exact (by decide : (0 : Int) < _) | (show (0 : Int) < _; omega) | (show CMul _ _; first | exact .inl ⟨by omega, by omega⟩ | exact .inr ⟨by omega, by omega⟩) | (show CDiv _ _; exact ⟨by omega, by omega⟩) | (show CDivW _ _; exact wide_div (b := 200) (by omega) (by assumption) (by decide) (by decide)) | (show CDivW _ _; exact wide_div (b := 31) (by omega) (by omega) (by decide) (by decide))))
  | with_reducible refine x_EqI ?_
  | with_reducible refine x_NeI ?_
  | ((with_reducible refine x_EqSt ?h ?_); (case h => decide +kernel))
  | ((with_reducible refine x_EqSf ?h ?_); (case h => decide +kernel))
  | ((with_reducible refine x_NeSt ?h ?_); (case h => decide +kernel))
  | ((with_reducible refine x_NeSf ?h ?_); (case h => decide +kernel))
  | with_reducible refine x_EqS ?_
  | with_reducible refine x_NeS ?_
  | ((with_reducible refine' x_ixL ?hq ?hi ?_); (case hq => walk_at "hk"); (case hi => first | exact rfl | assumption))
  | ((with_reducible refine' x_ixT ?hq ?hi ?_); (case hq => walk_at "hk"); (case hi => first | exact rfl | assumption))
  | with_reducible refine x_chain ?_
  | with_reducible refine x_tup ?_
  | with_reducible refine x_lst ?_
  | ((with_reducible refine x_lenNew ?hl ?_); (case hl => exact Nat.le_of_ble_eq_true rfl); intro _ _ _ _ _)
  | ((with_reducible refine x_new ?_); intro _ _ _ _ _)
  | with_reducible refine x_sl ?_
  | with_reducible refine x_noPart ?_
  | with_reducible refine x_part ?_
  | with_reducible refine x_ex_int ?_
  | with_reducible refine x_ex_bl ?_
  | with_reducible refine x_ex_2 ?_
  | with_reducible refine x_test ?_
  | with_reducible refine x_B ?_
  | with_reducible refine x_and ?_
  | with_reducible refine x_or ?_
  | with_reducible refine x_not ?_
  | with_reducible refine x_andV ?_
  | with_reducible refine x_orV ?_
  | with_reducible refine x_notV ?_
  | with_reducible refine x_ifE ?_
  | with_reducible refine x_iteT ?_
  | with_reducible refine x_iteF ?_
  | ((with_reducible refine x_iteD ?_ ?_) <;> intro _)
  | ((with_reducible refine x_iteN ?_ ?_) <;> intro _)
  | with_reducible refine x_if ?_
  | with_reducible refine x_seq ?_
  | with_reducible refine x_next ?_
  | with_reducible refine x_asg ?_
  | with_reducible refine x_gName ?_
  | ((with_reducible refine' x_gTup ?hq ?hn ?_); (case hq => walk_at "hk"); (case hn => exact rfl))
  | with_reducible refine x_gCons ?_
  | with_reducible refine x_gNil ?_
  | ((with_reducible refine' x_gConsE ?h ?_); (case h => exact rfl))
  | ((with_reducible refine x_gNilE ?h ?_); (case h => exact rfl))
  | with_reducible refine x_ret ?_
  | with_reducible refine x_drop ?_
  | with_reducible refine x_par ?_
  | ((with_reducible refine' x_aug ?hx ?_); (case hx => exact rfl))
  | with_reducible refine x_ipI ?_
  | with_reducible refine x_augS ?_
  | with_reducible refine x_gSub ?_
  | ((with_reducible refine' x_setL ?hq ?hi ?_); (case hq => walk_at "hk"); (case hi => first | exact rfl | assumption))
  | with_reducible refine x_cons ?_
  | with_reducible refine x_nil ?_
  | with_reducible refine x_CB ?_
  | with_reducible refine x_abs ?_
  | with_reducible refine x_intI ?_
  | with_reducible refine x_intB ?_
  | ((with_reducible refine' x_lenL ?hq ?_); (case hq => walk_at "hk"))
  | ((with_reducible refine' x_lenT ?hq ?_); (case hq => walk_at "hk"))
  | ((with_reducible refine x_iteTe ?h ?_); (case h => exact rfl))
  | ((with_reducible refine x_iteFe ?h ?_); (case h => exact rfl))
  | walk_at "use"
  | with_reducible refine x_callS ?_
  | ((with_reducible refine x_lc ?_))
  | ((with_reducible refine x_for ?_))
  | ((with_reducible refine x_iR1 ?_))
  | ((with_reducible refine x_iL ?_))
  | ((with_reducible refine x_iZ ?_))
  | ((with_reducible refine x_yes ?_))
  | ((with_reducible refine' x_NIDt ?hq ?_); (case hq => assumption))
  | ((with_reducible refine' x_NIDf ?hq ?_); (case hq => assumption))
  | ((with_reducible refine' x_IIDf ?hq ?_); (case hq => assumption))
  | ((with_reducible refine' x_IIDt ?hq ?_); (case hq => assumption))
  | ((with_reducible refine' x_ixDs ?hd ?hq ?_); (case hd => assumption); (case hq => assumption))
  | ((with_reducible refine x_InSt ?h ?_); (case h => decide +kernel))
  | ((with_reducible refine x_InSf ?h ?_); (case h => decide +kernel))
  | ((with_reducible refine' x_notInI ?hq ?_); (case hq => walk_at "hk"))
  | ((with_reducible refine' x_inTt ?hq ?hv ?ha ?he ?_); (case hq => walk_at "hk"); (case hv => exact rfl); (case ha => exact rfl); (case he => decide +kernel))
  | ((with_reducible refine' x_inTf ?hq ?hv ?ha ?he ?_); (case hq => walk_at "hk"); (case hv => exact rfl); (case ha => exact rfl); (case he => decide +kernel))
  | ((with_reducible refine' x_slT ?hq ?hw ?_); (case hq => walk_at "hk"); (case hw => with_unfolding_all exact of_decide_eq_true rfl))
  | ((with_reducible refine' x_slL ?hq ?_); (case hq => walk_at "hk"))
  | ((with_reducible refine' x_catT ?hq ?hr ?n1 ?n2 ?hl ?_); (case hq => walk_at "hk"); (case hr => walk_at "hk"); (case n1 => exact List.cons_ne_nil _ _); (case n2 => exact List.cons_ne_nil _ _); (case hl => exact Nat.le_of_ble_eq_true rfl))
  | ((with_reducible refine x_bm ?_))
  | ((with_reducible refine x_lstRg ?_))
  | ((with_reducible refine x_rg1 ?_))
  | ((with_reducible refine And.intro ?h ?_); (case h => exact tyL (by assumption)))
  | dsimp only)
local macro_rules | `(tactic| walk_at "use") => `(tactic| fail)
local macro_rules | `(tactic| walk_at "rd") => `(tactic| repeat' (walk_at "rd1"))
local macro_rules | `(tactic| walk_at "ex") => `(tactic| first | exact Ex.refl _ | assumption | (refine' Ex.trans ?he (by assumption); (case he => walk_at "ex")))
local macro_rules | `(tactic| walk_at "rd1") => `(tactic| first
  | ((with_reducible refine x_iteDf ?h ?_); (case h => exact rfl))
  | ((with_reducible refine x_iteDt ?h ?_); (case h => exact rfl))
  | ((with_reducible refine x_iteNf ?h ?_); (case h => exact rfl))
  | ((with_reducible refine x_iteNt ?h ?_); (case h => exact rfl))
  | ((with_reducible refine x_isiI (r := true) ?h ?_); (case h => decide +kernel))
  | ((with_reducible refine x_isiI (r := false) ?h ?_); (case h => decide +kernel))
  | ((with_reducible refine x_isiS (r := true) ?h ?_); (case h => decide +kernel))
  | ((with_reducible refine x_isiS (r := false) ?h ?_); (case h => decide +kernel))
  | ((with_reducible refine x_isiB (r := true) ?h ?_); (case h => decide +kernel))
  | ((with_reducible refine x_isiB (r := false) ?h ?_); (case h => decide +kernel))
  | ((with_reducible refine' x_isiT (r := true) ?hp ?h ?_); (case hp => walk_at "hk"); (case h => decide +kernel))
  | ((with_reducible refine' x_isiT (r := false) ?hp ?h ?_); (case hp => walk_at "hk"); (case h => decide +kernel))
  | ((with_reducible refine' x_isiL (r := true) ?hp ?h ?_); (case hp => walk_at "hk"); (case h => decide +kernel))
  | ((with_reducible refine' x_isiL (r := false) ?hp ?h ?_); (case hp => walk_at "hk"); (case h => decide +kernel))
  | ((with_reducible refine' x_isi2L ?hp ?hl ?_); (case hp => walk_at "hk"); (case hl => walk_at "hk"))
  | ((with_reducible refine' x_isi2T ?hp ?hl ?_); (case hp => walk_at "hk"); (case hl => walk_at "hk"))
  | ((with_reducible refine' x_tupOfL ?hq ?_); (case hq => walk_at "hk"))
  | ((with_reducible refine' x_tupOfT ?hq ?_); (case hq => walk_at "hk"))
  | ((with_reducible refine x_lenS ?h ?_); (case h => exact Nat.le_of_ble_eq_true rfl))
  | ((with_reducible refine' x_all ?hq ?_); (case hq => walk_at "hk"))
  | with_reducible refine x_lenSet ?_)
local macro_rules | `(tactic| walk_at "nb") => `(tactic| first | exact NB.xd | exact NB.dK)
local macro_rules | `(tactic| walk_at "rd1") => `(tactic| first
  | with_reducible refine Er.x_par3 ?_
  | with_reducible refine Er.x_ex_3 ?_
  | with_reducible refine Er.x_revL0 ?_
  | ((with_reducible refine' Er.x_revL ?hq ?_); (case hq => walk_at "hk"))
  | with_reducible refine Er.x_dget2 ?_
  | with_reducible refine x_dict0 ?_
  | ((with_reducible refine x_pow ?hc ?_); (case hc => exact ⟨by decide, by decide, by decide⟩))
  | ((with_reducible refine And.intro ?h ?_); (case h => exact tyL (by walk_at "hk")))
  | ((with_reducible refine' Er.x_dis ?hq ?_); (case hq => walk_at "hk"))
  | ((with_reducible refine' Er.x_dgo ?hq ?he ?_); (case hq => walk_at "hk"); (case he => exact rfl)))
local macro_rules | `(tactic| walk_at "rd1") => `(tactic| first
  | with_reducible refine Er.x_callSS ?_
  | ((with_reducible refine Er.x_mulS2 ?h ?h0 ?h1 ?_); (case h => decide); (case h0 => decide); (case h1 => decide)))
local macro_rules | `(tactic| walk_at "rd1") => `(tactic| first
  | with_reducible refine Er.x_iR2 ?_
  | with_reducible refine Er.x_iEn ?_
  | with_reducible refine Er.x_cont ?_
  | ((with_reducible refine Er.x_isBt ?h ?_); (case h => exact rfl))
  | ((with_reducible refine Er.x_isBf ?h ?_); (case h => exact rfl))
  | ((with_reducible refine Er.x_isNBt ?h ?_); (case h => exact rfl))
  | ((with_reducible refine Er.x_isNBf ?h ?_); (case h => exact rfl))
  | with_reducible refine Er.x_isB ?_
  | with_reducible refine Er.x_isNB ?_)
local macro_rules | `(tactic| walk_at "nb") => `(tactic| exact NB.dT)
local macro_rules | `(tactic| walk_at "rd1") => `(tactic| first
  | with_reducible refine Er.x_dNotIn ?_
  | with_reducible refine Er.x_dPut ?_
  | with_reducible refine Er.x_dnewT ?_)

section
variable {P : Program} {w : World} {K : PySem.W.Frag} {mg : Str → Option Value} {base : Heap} {a : Ad} {H H1 : Hp} {Q : VK} {E : XK} {p b : Addr} {v u : V}
/-! a call's step, by the numbers of places -/
def Wd (z : Str) : Prop := z = "halve" ∨ z = "pair" ∨ z = "others" ∨ z = "fill"
def gg (z : Str) (F R : Int) : Int → Int := if z = "halve" then Nt.hl F R else if z = "pair" then Nt.pr F R else if z = "others" then Nt.lft F (Nt.oth R) else Nt.lft F (Nt.fil R)
abbrev plc (F n : Int) : HO := .tup [.int (n / F), .int (n % F)]
def sp_Lopen : Sp := fun vs H Q _ => ∃ (z : Str) (F R n : Int) (p : Addr), vs = [.str z, .int F, .int R, .ref p] ∧ Wd z ∧ H p = some (plc F n) ∧ 2 ≤ F ∧ F ≤ 3 ∧ 1 ≤ R ∧ R < 1000000 ∧ 0 ≤ n ∧ n < F * R ∧
  ∀ p' H1, Ex H H1 → H1 p' = some (plc F (gg z F R n)) → Q (.ref p') H1
theorem ok_Lopen (T : Txt K w mg a) : FnOk P w K mg base CX0 1 a.a_Lopen a.fd_Lopen ["_law_word", "_law_files", "_law_rows", "_law_place"] sp_Lopen := by
  refine T.F_Lopen.ok sc_Lopen (fun vs H Q E h => ?_) (fun cdv A outer s H vs Q E hr h => ?_)
  · obtain ⟨z, F, R, n, p, rfl, _⟩ := h; rfl
  · obtain ⟨z, F, R, n, p, rfl, hz, hp, hF, hF3, hR, hR2, h0, h1, k⟩ := h
    have le : n ≤ Nt.lst F R := by unfold Nt.lst; omega
    obtain ⟨a1, a2, a3, a4, a5⟩ := Nt.div_lt (A := F) (B := R) (by omega) h0 (by omega)
    have num : n / F * F + n % F = n := by rw [Int.mul_comm]; omega
    have fr : F * R ≤ 3 * R := Int.mul_le_mul_of_nonneg_right hF3 (by omega)
    rcases hz with rfl | rfl | rfl | rfl
    · obtain ⟨_, _, b3, b4, _⟩ := Nt.hl_ok hF hR h0 le
      have e : gg "halve" F R n = Nt.hl F R n := rfl
      rw [e] at k
      unfold plc at k
      rw [b3, b4] at k
      refine ⟨_, (pss_cons (ps_par (i := 4) (j := 5) rfl sc_Lopen.nd rfl rfl (by decide) rfl rfl (pa_cons (pe_op op_add (pe_op op_mul (pe_ix ix_tup (pv 3) pe_int (fun _ _ => rfl)) (pv 1)) (pe_ix ix_tup (pv 3) pe_int (fun _ _ => rfl))) (pa_cons (pe_op op_sub (pv 2) (pe_op op_fdiv (pv 2) pe_int)) pa_nil)) rfl)
      (pss_cons (ps_if (pt_cmpR op_eq (pv 0) pe_str (nomark _)) (pss_one (ps_ret (pe_tup (pa_cons (pe_op op_sub (pv 4) (pe_op op_mul (pv 2) (pe_op op_fdivW (pv 4) (pv 2)))) (pa_cons (pe_op op_fdivW (pv 4) (pv 2)) pa_nil))))) pss_nil)
      (pss_cons (ps_if (pt_cmpR op_eq (pv 0) pe_str (nomark _)) (pss_cons (ps_set (i := 6) sc_Lopen.nd rfl (Or.inl rfl) (pe_op op_add (pe_op op_mul (pe_ix ix_tup (pv 3) pe_int (fun _ _ => rfl)) (pv 2)) (pe_ix ix_tup (pv 3) pe_int (fun _ _ => rfl))))
      (pss_one (ps_ret (pe_tup (pa_cons (pe_op op_fdivW (pv 6) (pv 1)) (pa_cons (pe_op op_sub (pv 6) (pe_op op_mul (pv 1) (pe_op op_fdivW (pv 6) (pv 1)))) pa_nil)))))) pss_nil)
      (pss_cons (ps_set (i := 7) sc_Lopen.nd rfl (Or.inl rfl) (pe_op op_sub (pe_ix ix_tup (pv 3) pe_int (fun _ _ => rfl)) (pe_op op_mul pe_int (pe_op op_fdiv (pe_ix ix_tup (pv 3) pe_int (fun _ _ => rfl)) pe_int))))
      (pss_cons (ps_if (pt_cmpR op_eq (pv 0) pe_str (nomark _)) (pss_one (ps_ret (pe_tup (pa_cons (pe_op op_add (pe_op op_fdiv (pe_ix ix_tup (pv 3) pe_int (fun _ _ => rfl)) pe_int) (pe_op op_mul (pv 5) (pv 7))) (pa_cons (pe_ix ix_tup (pv 3) pe_int (fun _ _ => rfl)) pa_nil))))) pss_nil)
      (pss_cons (ps_set (i := 8) sc_Lopen.nd rfl (Or.inl rfl) (pe_callTy c_int (by rfl) T.n_int (by decide +kernel) (pa_cons (pe_cmpR op_ge (pe_ix ix_tup (pv 3) pe_int (fun _ _ => rfl)) (pv 5) (nomark _)) pa_nil)))
      (pss_one (ps_ret (pe_tup (pa_cons (pe_op op_add (pe_op op_mul pe_int (pe_op op_sub (pe_ix ix_tup (pv 3) pe_int (fun _ _ => rfl)) (pe_op op_mul (pv 5) (pv 8)))) (pv 8)) (pa_cons (pe_ix ix_tup (pv 3) pe_int (fun _ _ => rfl)) pa_nil))))))))))), ?_⟩
      walk_at "rd"
      rename_i h
      rw [num] at h
      exact k _ _ (by walk_at "ex") h
    · have e : gg "pair" F R n = Nt.pr F R n := rfl
      rw [e] at k
      refine ⟨_, (pss_cons (ps_par (i := 4) (j := 5) rfl sc_Lopen.nd rfl rfl (by decide) rfl rfl (pa_cons (pe_op op_add (pe_op op_mul (pe_ix ix_tup (pv 3) pe_int (fun _ _ => rfl)) (pv 1)) (pe_ix ix_tup (pv 3) pe_int (fun _ _ => rfl))) (pa_cons (pe_op op_sub (pv 2) (pe_op op_fdiv (pv 2) pe_int)) pa_nil)) rfl)
      (pss_cons (ps_if (pt_cmpR op_eq (pv 0) pe_str (nomark _)) (pss_one (ps_ret (pe_tup (pa_cons (pe_op op_sub (pv 4) (pe_op op_mul (pv 2) (pe_op op_fdivW (pv 4) (pv 2)))) (pa_cons (pe_op op_fdivW (pv 4) (pv 2)) pa_nil))))) pss_nil)
      (pss_cons (ps_if (pt_cmpR op_eq (pv 0) pe_str (nomark _)) (pss_cons (ps_set (i := 6) sc_Lopen.nd rfl (Or.inl rfl) (pe_op op_add (pe_op op_mul (pe_ix ix_tup (pv 3) pe_int (fun _ _ => rfl)) (pv 2)) (pe_ix ix_tup (pv 3) pe_int (fun _ _ => rfl))))
      (pss_one (ps_ret (pe_tup (pa_cons (pe_op op_fdivW (pv 6) (pv 1)) (pa_cons (pe_op op_sub (pv 6) (pe_op op_mul (pv 1) (pe_op op_fdivW (pv 6) (pv 1)))) pa_nil)))))) pss_nil)
      (pss_cons (ps_set (i := 7) sc_Lopen.nd rfl (Or.inl rfl) (pe_op op_sub (pe_ix ix_tup (pv 3) pe_int (fun _ _ => rfl)) (pe_op op_mul pe_int (pe_op op_fdiv (pe_ix ix_tup (pv 3) pe_int (fun _ _ => rfl)) pe_int))))
      (pss_cons (ps_if (pt_cmpR op_eq (pv 0) pe_str (nomark _)) (pss_one (ps_ret (pe_tup (pa_cons (pe_op op_add (pe_op op_fdiv (pe_ix ix_tup (pv 3) pe_int (fun _ _ => rfl)) pe_int) (pe_op op_mul (pv 5) (pv 7))) (pa_cons (pe_ix ix_tup (pv 3) pe_int (fun _ _ => rfl)) pa_nil))))) pss_nil)
      (pss_cons (ps_set (i := 8) sc_Lopen.nd rfl (Or.inl rfl) (pe_callTy c_int (by rfl) T.n_int (by decide +kernel) (pa_cons (pe_cmpR op_ge (pe_ix ix_tup (pv 3) pe_int (fun _ _ => rfl)) (pv 5) (nomark _)) pa_nil)))
      (pss_one (ps_ret (pe_tup (pa_cons (pe_op op_add (pe_op op_mul pe_int (pe_op op_sub (pe_ix ix_tup (pv 3) pe_int (fun _ _ => rfl)) (pe_op op_mul (pv 5) (pv 8)))) (pv 8)) (pa_cons (pe_ix ix_tup (pv 3) pe_int (fun _ _ => rfl)) pa_nil))))))))))), ?_⟩
      walk_at "rd"
      rename_i h
      refine k _ _ (by walk_at "ex") ?_
      rw [h]
      unfold plc Nt.pr
      generalize n % F * R + n / F = x
      rw [show x - F * (x / F) = x % F by have := Int.mul_ediv_add_emod x F; omega]
    · have e : gg "others" F R n = Nt.lft F (Nt.oth R) n := rfl
      rw [e] at k
      obtain ⟨d1, d2⟩ := Nt.lift_dm (F := F) (r := Nt.oth R (n / F)) (by omega) a3 a4
      unfold plc Nt.lft at k
      rw [d1, d2] at k
      unfold Nt.oth at k
      refine ⟨_, (pss_cons (ps_par (i := 4) (j := 5) rfl sc_Lopen.nd rfl rfl (by decide) rfl rfl (pa_cons (pe_op op_add (pe_op op_mul (pe_ix ix_tup (pv 3) pe_int (fun _ _ => rfl)) (pv 1)) (pe_ix ix_tup (pv 3) pe_int (fun _ _ => rfl))) (pa_cons (pe_op op_sub (pv 2) (pe_op op_fdiv (pv 2) pe_int)) pa_nil)) rfl)
      (pss_cons (ps_if (pt_cmpR op_eq (pv 0) pe_str (nomark _)) (pss_one (ps_ret (pe_tup (pa_cons (pe_op op_sub (pv 4) (pe_op op_mul (pv 2) (pe_op op_fdivW (pv 4) (pv 2)))) (pa_cons (pe_op op_fdivW (pv 4) (pv 2)) pa_nil))))) pss_nil)
      (pss_cons (ps_if (pt_cmpR op_eq (pv 0) pe_str (nomark _)) (pss_cons (ps_set (i := 6) sc_Lopen.nd rfl (Or.inl rfl) (pe_op op_add (pe_op op_mul (pe_ix ix_tup (pv 3) pe_int (fun _ _ => rfl)) (pv 2)) (pe_ix ix_tup (pv 3) pe_int (fun _ _ => rfl))))
      (pss_one (ps_ret (pe_tup (pa_cons (pe_op op_fdivW (pv 6) (pv 1)) (pa_cons (pe_op op_sub (pv 6) (pe_op op_mul (pv 1) (pe_op op_fdivW (pv 6) (pv 1)))) pa_nil)))))) pss_nil)
      (pss_cons (ps_set (i := 7) sc_Lopen.nd rfl (Or.inl rfl) (pe_op op_sub (pe_ix ix_tup (pv 3) pe_int (fun _ _ => rfl)) (pe_op op_mul pe_int (pe_op op_fdiv (pe_ix ix_tup (pv 3) pe_int (fun _ _ => rfl)) pe_int))))
      (pss_cons (ps_if (pt_cmpR op_eq (pv 0) pe_str (nomark _)) (pss_one (ps_ret (pe_tup (pa_cons (pe_op op_add (pe_op op_fdiv (pe_ix ix_tup (pv 3) pe_int (fun _ _ => rfl)) pe_int) (pe_op op_mul (pv 5) (pv 7))) (pa_cons (pe_ix ix_tup (pv 3) pe_int (fun _ _ => rfl)) pa_nil))))) pss_nil)
      (pss_cons (ps_set (i := 8) sc_Lopen.nd rfl (Or.inl rfl) (pe_callTy c_int (by rfl) T.n_int (by decide +kernel) (pa_cons (pe_cmpR op_ge (pe_ix ix_tup (pv 3) pe_int (fun _ _ => rfl)) (pv 5) (nomark _)) pa_nil)))
      (pss_one (ps_ret (pe_tup (pa_cons (pe_op op_add (pe_op op_mul pe_int (pe_op op_sub (pe_ix ix_tup (pv 3) pe_int (fun _ _ => rfl)) (pe_op op_mul (pv 5) (pv 8)))) (pv 8)) (pa_cons (pe_ix ix_tup (pv 3) pe_int (fun _ _ => rfl)) pa_nil))))))))))), ?_⟩
      walk_at "rd"
      exact k _ _ (by walk_at "ex") (by assumption)
    · have e : gg "fill" F R n = Nt.lft F (Nt.fil R) n := rfl
      rw [e] at k
      obtain ⟨d1, d2⟩ := Nt.lift_dm (F := F) (r := Nt.fil R (n / F)) (by omega) a3 a4
      unfold plc Nt.lft at k
      rw [d1, d2] at k
      unfold Nt.fil Nt.fil1 at k
      refine ⟨_, (pss_cons (ps_par (i := 4) (j := 5) rfl sc_Lopen.nd rfl rfl (by decide) rfl rfl (pa_cons (pe_op op_add (pe_op op_mul (pe_ix ix_tup (pv 3) pe_int (fun _ _ => rfl)) (pv 1)) (pe_ix ix_tup (pv 3) pe_int (fun _ _ => rfl))) (pa_cons (pe_op op_sub (pv 2) (pe_op op_fdiv (pv 2) pe_int)) pa_nil)) rfl)
      (pss_cons (ps_if (pt_cmpR op_eq (pv 0) pe_str (nomark _)) (pss_one (ps_ret (pe_tup (pa_cons (pe_op op_sub (pv 4) (pe_op op_mul (pv 2) (pe_op op_fdivW (pv 4) (pv 2)))) (pa_cons (pe_op op_fdivW (pv 4) (pv 2)) pa_nil))))) pss_nil)
      (pss_cons (ps_if (pt_cmpR op_eq (pv 0) pe_str (nomark _)) (pss_cons (ps_set (i := 6) sc_Lopen.nd rfl (Or.inl rfl) (pe_op op_add (pe_op op_mul (pe_ix ix_tup (pv 3) pe_int (fun _ _ => rfl)) (pv 2)) (pe_ix ix_tup (pv 3) pe_int (fun _ _ => rfl))))
      (pss_one (ps_ret (pe_tup (pa_cons (pe_op op_fdivW (pv 6) (pv 1)) (pa_cons (pe_op op_sub (pv 6) (pe_op op_mul (pv 1) (pe_op op_fdivW (pv 6) (pv 1)))) pa_nil)))))) pss_nil)
      (pss_cons (ps_set (i := 7) sc_Lopen.nd rfl (Or.inl rfl) (pe_op op_sub (pe_ix ix_tup (pv 3) pe_int (fun _ _ => rfl)) (pe_op op_mul pe_int (pe_op op_fdiv (pe_ix ix_tup (pv 3) pe_int (fun _ _ => rfl)) pe_int))))
      (pss_cons (ps_if (pt_cmpR op_eq (pv 0) pe_str (nomark _)) (pss_one (ps_ret (pe_tup (pa_cons (pe_op op_add (pe_op op_fdiv (pe_ix ix_tup (pv 3) pe_int (fun _ _ => rfl)) pe_int) (pe_op op_mul (pv 5) (pv 7))) (pa_cons (pe_ix ix_tup (pv 3) pe_int (fun _ _ => rfl)) pa_nil))))) pss_nil)
      (pss_cons (ps_set (i := 8) sc_Lopen.nd rfl (Or.inl rfl) (pe_callTy c_int (by rfl) T.n_int (by decide +kernel) (pa_cons (pe_cmpR op_ge (pe_ix ix_tup (pv 3) pe_int (fun _ _ => rfl)) (pv 5) (nomark _)) pa_nil)))
      (pss_one (ps_ret (pe_tup (pa_cons (pe_op op_add (pe_op op_mul pe_int (pe_op op_sub (pe_ix ix_tup (pv 3) pe_int (fun _ _ => rfl)) (pe_op op_mul (pv 5) (pv 8)))) (pv 8)) (pa_cons (pe_ix ix_tup (pv 3) pe_int (fun _ _ => rfl)) pa_nil))))))))))), ?_⟩
      walk_at "rd"
      rename_i h
      refine k _ _ (by walk_at "ex") ?_
      rw [h]
      simp
def sp_Lgoes : Sp := fun vs H Q _ => ∃ (c p : Addr) (z : Str) (F R n : Int), vs = [.ref c, .int F, .int R, .ref p] ∧ Wd z ∧ H c = some (.tup [.str z]) ∧ H p = some (plc F n) ∧ 2 ≤ F ∧ F ≤ 3 ∧ 1 ≤ R ∧ R < 1000000 ∧ 0 ≤ n ∧ n < F * R ∧
  ∀ p' H1, Ex H H1 → H1 p' = some (plc F (gg z F R n)) → Q (.ref p') H1
theorem ok_Lgoes (T : Txt K w mg a) : FnOk P w K mg base CX0 2 a.a_Lgoes a.fd_Lgoes ["_law_call", "_law_files", "_law_rows", "_law_place"] sp_Lgoes := by
  refine T.F_Lgoes.ok sc_Lgoes (fun vs H Q E h => ?_) (fun cdv A outer s H vs Q E hr h => ?_)
  · obtain ⟨c, p, z, F, R, n, rfl, _⟩ := h; rfl
  · obtain ⟨c, p, z, F, R, n, rfl, hz, hc, hp, hF, hF3, hR, hR2, h0, h1, k⟩ := h
    have G_Lopen := ok_Lopen (P := P) (base := base) T
    rcases hz with rfl | rfl | rfl | rfl
    · refine ⟨_, (pss_cons (ps_par3 (i := 4) (j := 5) (l := 6) rfl sc_Lgoes.nd rfl rfl rfl (by decide) (by decide) (by decide) rfl rfl rfl (pa_cons (pe_ix ix_tup (pv 0) pe_int (fun _ _ => rfl)) (pa_cons (pe_ix ix_tup (pv 3) pe_int (fun _ _ => rfl)) (pa_cons (pe_ix ix_tup (pv 3) pe_int (fun _ _ => rfl)) pa_nil))) rfl)
      (pss_cons (ps_if (PW.pt (pw_or (pt_cmpR op_eq (pv 4) pe_str (nomark _)) (pw_or1 (PW.pt (pw_and (pt_cmpR op_eq (pv 4) pe_str (nomark _)) (pw_and1 (pt_cmpR op_eq (pv 6) (pe_ix ix_tup (pv 0) pe_int (fun _ _ => rfl)) (nomark _)))))))) (pss_one (ps_ret (pe_tup (pa_cons (pe_op op_mod (pe_callTy c_int (by rfl) T.n_int (by decide +kernel) (pa_cons (pe_op op_sub (pv 5) (pe_ix ix_tup (pv 0) (pe_un un_neg pe_int) (fun _ _ => rfl))) pa_nil)) (pv 2)) (pa_cons (pv 6) pa_nil))))) pss_nil)
      (pss_cons (ps_if (pt_cmpR op_eq (pv 4) pe_str (nomark _)) (pss_one (ps_ret (pe_tup (pa_cons (pe_op op_sub (pe_op op_sub (pv 2) pe_int) (pv 5)) (pa_cons (pe_op op_sub (pe_op op_sub (pv 1) pe_int) (pv 6)) pa_nil))))) pss_nil)
      (pss_cons (ps_if (PW.pt (pw_and (pt_cmpR op_in_seq (pv 4) (pe_tup (pa_cons pe_str (pa_cons pe_str pa_nil))) (by rfl)) (pw_and (pt_cmpR op_in_seq (pv 6) (pe_slice sl_tup (pv 0) (po_some pe_int) po_none) (by rfl)) (pw_and1 (PW.pt (pw_or (pt_cmpR op_eq (pv 4) pe_str (nomark _)) (pw_or1 (pt_cmpR op_eq (pv 5) pe_int (nomark _))))))))) (pss_one (ps_ret (pe_tup (pa_cons (pv 5) (pa_cons (pe_op op_sub (pe_op op_add (pe_ix ix_tup (pv 0) pe_int (fun _ _ => rfl)) (pe_ix ix_tup (pv 0) pe_int (fun _ _ => rfl))) (pv 6)) pa_nil))))) pss_nil)
      (pss_cons (ps_if (PW.pt (pw_and (pt_cmpR op_eq (pv 4) pe_str (nomark _)) (pw_and1 (pt_cmpR op_in_seq (pv 6) (pe_slice sl_tup (pv 0) (po_some pe_int) (po_some pe_int)) (by rfl))))) (pss_cons (ps_set (i := 7) sc_Lgoes.nd rfl (Or.inl rfl) (pe_op op_mod (pe_callTy c_int (by rfl) T.n_int (by decide +kernel) (pa_cons (pe_op op_add (pe_ifExp (pt_cmpR op_eq (pv 6) (pe_ix ix_tup (pv 0) pe_int (fun _ _ => rfl)) (nomark _)) (pe_op op_add (pv 2) (pv 5)) (pe_op op_sub (pe_op op_sub (pv 2) pe_int) (pv 5))) (pe_ix ix_tup (pv 0) pe_int (fun _ _ => rfl))) pa_nil)) (pe_op op_mul pe_int (pv 2))))
      (pss_one (ps_ret (pe_ifExp (pt_cmpR op_ge (pv 7) (pv 2) (nomark _)) (pe_tup (pa_cons (pe_op op_sub (pv 7) (pv 2)) (pa_cons (pe_ix ix_tup (pv 0) pe_int (fun _ _ => rfl)) pa_nil))) (pe_tup (pa_cons (pe_op op_sub (pe_op op_sub (pv 2) pe_int) (pv 7)) (pa_cons (pe_ix ix_tup (pv 0) pe_int (fun _ _ => rfl)) pa_nil))))))) pss_nil)
      (pss_cons (ps_if (pt_cmpR op_in_seq (pv 4) (pe_tup (pa_cons pe_str (pa_cons pe_str (pa_cons pe_str (pa_cons pe_str pa_nil))))) (by rfl)) (pss_one (ps_ret (pe_call G_Lopen (hr.mono (by decide)) (by rfl) T.m_Lopen T.k_Lopen T.b_Lopen .nil pass0 (pa_cons (pv 4) (pa_cons (pv 1) (pa_cons (pv 2) (pa_cons (pv 3) pa_nil))))))) pss_nil)
      (pss_one (ps_ret (pv 3))))))))), ?_⟩
      walk_at "rd"
      refine ⟨_, _, _, n, _, rfl, .inl rfl, ?_, hF, hF3, hR, hR2, h0, h1, fun p' H1 e1 q1 => k p' H1 (by walk_at "ex") q1⟩
      walk_at "hk"
    · refine ⟨_, (pss_cons (ps_par3 (i := 4) (j := 5) (l := 6) rfl sc_Lgoes.nd rfl rfl rfl (by decide) (by decide) (by decide) rfl rfl rfl (pa_cons (pe_ix ix_tup (pv 0) pe_int (fun _ _ => rfl)) (pa_cons (pe_ix ix_tup (pv 3) pe_int (fun _ _ => rfl)) (pa_cons (pe_ix ix_tup (pv 3) pe_int (fun _ _ => rfl)) pa_nil))) rfl)
      (pss_cons (ps_if (PW.pt (pw_or (pt_cmpR op_eq (pv 4) pe_str (nomark _)) (pw_or1 (PW.pt (pw_and (pt_cmpR op_eq (pv 4) pe_str (nomark _)) (pw_and1 (pt_cmpR op_eq (pv 6) (pe_ix ix_tup (pv 0) pe_int (fun _ _ => rfl)) (nomark _)))))))) (pss_one (ps_ret (pe_tup (pa_cons (pe_op op_mod (pe_callTy c_int (by rfl) T.n_int (by decide +kernel) (pa_cons (pe_op op_sub (pv 5) (pe_ix ix_tup (pv 0) (pe_un un_neg pe_int) (fun _ _ => rfl))) pa_nil)) (pv 2)) (pa_cons (pv 6) pa_nil))))) pss_nil)
      (pss_cons (ps_if (pt_cmpR op_eq (pv 4) pe_str (nomark _)) (pss_one (ps_ret (pe_tup (pa_cons (pe_op op_sub (pe_op op_sub (pv 2) pe_int) (pv 5)) (pa_cons (pe_op op_sub (pe_op op_sub (pv 1) pe_int) (pv 6)) pa_nil))))) pss_nil)
      (pss_cons (ps_if (PW.pt (pw_and (pt_cmpR op_in_seq (pv 4) (pe_tup (pa_cons pe_str (pa_cons pe_str pa_nil))) (by rfl)) (pw_and (pt_cmpR op_in_seq (pv 6) (pe_slice sl_tup (pv 0) (po_some pe_int) po_none) (by rfl)) (pw_and1 (PW.pt (pw_or (pt_cmpR op_eq (pv 4) pe_str (nomark _)) (pw_or1 (pt_cmpR op_eq (pv 5) pe_int (nomark _))))))))) (pss_one (ps_ret (pe_tup (pa_cons (pv 5) (pa_cons (pe_op op_sub (pe_op op_add (pe_ix ix_tup (pv 0) pe_int (fun _ _ => rfl)) (pe_ix ix_tup (pv 0) pe_int (fun _ _ => rfl))) (pv 6)) pa_nil))))) pss_nil)
      (pss_cons (ps_if (PW.pt (pw_and (pt_cmpR op_eq (pv 4) pe_str (nomark _)) (pw_and1 (pt_cmpR op_in_seq (pv 6) (pe_slice sl_tup (pv 0) (po_some pe_int) (po_some pe_int)) (by rfl))))) (pss_cons (ps_set (i := 7) sc_Lgoes.nd rfl (Or.inl rfl) (pe_op op_mod (pe_callTy c_int (by rfl) T.n_int (by decide +kernel) (pa_cons (pe_op op_add (pe_ifExp (pt_cmpR op_eq (pv 6) (pe_ix ix_tup (pv 0) pe_int (fun _ _ => rfl)) (nomark _)) (pe_op op_add (pv 2) (pv 5)) (pe_op op_sub (pe_op op_sub (pv 2) pe_int) (pv 5))) (pe_ix ix_tup (pv 0) pe_int (fun _ _ => rfl))) pa_nil)) (pe_op op_mul pe_int (pv 2))))
      (pss_one (ps_ret (pe_ifExp (pt_cmpR op_ge (pv 7) (pv 2) (nomark _)) (pe_tup (pa_cons (pe_op op_sub (pv 7) (pv 2)) (pa_cons (pe_ix ix_tup (pv 0) pe_int (fun _ _ => rfl)) pa_nil))) (pe_tup (pa_cons (pe_op op_sub (pe_op op_sub (pv 2) pe_int) (pv 7)) (pa_cons (pe_ix ix_tup (pv 0) pe_int (fun _ _ => rfl)) pa_nil))))))) pss_nil)
      (pss_cons (ps_if (pt_cmpR op_in_seq (pv 4) (pe_tup (pa_cons pe_str (pa_cons pe_str (pa_cons pe_str (pa_cons pe_str pa_nil))))) (by rfl)) (pss_one (ps_ret (pe_call G_Lopen (hr.mono (by decide)) (by rfl) T.m_Lopen T.k_Lopen T.b_Lopen .nil pass0 (pa_cons (pv 4) (pa_cons (pv 1) (pa_cons (pv 2) (pa_cons (pv 3) pa_nil))))))) pss_nil)
      (pss_one (ps_ret (pv 3))))))))), ?_⟩
      walk_at "rd"
      refine ⟨_, _, _, n, _, rfl, .inr (.inl rfl), ?_, hF, hF3, hR, hR2, h0, h1, fun p' H1 e1 q1 => k p' H1 (by walk_at "ex") q1⟩
      walk_at "hk"
    · refine ⟨_, (pss_cons (ps_par3 (i := 4) (j := 5) (l := 6) rfl sc_Lgoes.nd rfl rfl rfl (by decide) (by decide) (by decide) rfl rfl rfl (pa_cons (pe_ix ix_tup (pv 0) pe_int (fun _ _ => rfl)) (pa_cons (pe_ix ix_tup (pv 3) pe_int (fun _ _ => rfl)) (pa_cons (pe_ix ix_tup (pv 3) pe_int (fun _ _ => rfl)) pa_nil))) rfl)
      (pss_cons (ps_if (PW.pt (pw_or (pt_cmpR op_eq (pv 4) pe_str (nomark _)) (pw_or1 (PW.pt (pw_and (pt_cmpR op_eq (pv 4) pe_str (nomark _)) (pw_and1 (pt_cmpR op_eq (pv 6) (pe_ix ix_tup (pv 0) pe_int (fun _ _ => rfl)) (nomark _)))))))) (pss_one (ps_ret (pe_tup (pa_cons (pe_op op_mod (pe_callTy c_int (by rfl) T.n_int (by decide +kernel) (pa_cons (pe_op op_sub (pv 5) (pe_ix ix_tup (pv 0) (pe_un un_neg pe_int) (fun _ _ => rfl))) pa_nil)) (pv 2)) (pa_cons (pv 6) pa_nil))))) pss_nil)
      (pss_cons (ps_if (pt_cmpR op_eq (pv 4) pe_str (nomark _)) (pss_one (ps_ret (pe_tup (pa_cons (pe_op op_sub (pe_op op_sub (pv 2) pe_int) (pv 5)) (pa_cons (pe_op op_sub (pe_op op_sub (pv 1) pe_int) (pv 6)) pa_nil))))) pss_nil)
      (pss_cons (ps_if (PW.pt (pw_and (pt_cmpR op_in_seq (pv 4) (pe_tup (pa_cons pe_str (pa_cons pe_str pa_nil))) (by rfl)) (pw_and (pt_cmpR op_in_seq (pv 6) (pe_slice sl_tup (pv 0) (po_some pe_int) po_none) (by rfl)) (pw_and1 (PW.pt (pw_or (pt_cmpR op_eq (pv 4) pe_str (nomark _)) (pw_or1 (pt_cmpR op_eq (pv 5) pe_int (nomark _))))))))) (pss_one (ps_ret (pe_tup (pa_cons (pv 5) (pa_cons (pe_op op_sub (pe_op op_add (pe_ix ix_tup (pv 0) pe_int (fun _ _ => rfl)) (pe_ix ix_tup (pv 0) pe_int (fun _ _ => rfl))) (pv 6)) pa_nil))))) pss_nil)
      (pss_cons (ps_if (PW.pt (pw_and (pt_cmpR op_eq (pv 4) pe_str (nomark _)) (pw_and1 (pt_cmpR op_in_seq (pv 6) (pe_slice sl_tup (pv 0) (po_some pe_int) (po_some pe_int)) (by rfl))))) (pss_cons (ps_set (i := 7) sc_Lgoes.nd rfl (Or.inl rfl) (pe_op op_mod (pe_callTy c_int (by rfl) T.n_int (by decide +kernel) (pa_cons (pe_op op_add (pe_ifExp (pt_cmpR op_eq (pv 6) (pe_ix ix_tup (pv 0) pe_int (fun _ _ => rfl)) (nomark _)) (pe_op op_add (pv 2) (pv 5)) (pe_op op_sub (pe_op op_sub (pv 2) pe_int) (pv 5))) (pe_ix ix_tup (pv 0) pe_int (fun _ _ => rfl))) pa_nil)) (pe_op op_mul pe_int (pv 2))))
      (pss_one (ps_ret (pe_ifExp (pt_cmpR op_ge (pv 7) (pv 2) (nomark _)) (pe_tup (pa_cons (pe_op op_sub (pv 7) (pv 2)) (pa_cons (pe_ix ix_tup (pv 0) pe_int (fun _ _ => rfl)) pa_nil))) (pe_tup (pa_cons (pe_op op_sub (pe_op op_sub (pv 2) pe_int) (pv 7)) (pa_cons (pe_ix ix_tup (pv 0) pe_int (fun _ _ => rfl)) pa_nil))))))) pss_nil)
      (pss_cons (ps_if (pt_cmpR op_in_seq (pv 4) (pe_tup (pa_cons pe_str (pa_cons pe_str (pa_cons pe_str (pa_cons pe_str pa_nil))))) (by rfl)) (pss_one (ps_ret (pe_call G_Lopen (hr.mono (by decide)) (by rfl) T.m_Lopen T.k_Lopen T.b_Lopen .nil pass0 (pa_cons (pv 4) (pa_cons (pv 1) (pa_cons (pv 2) (pa_cons (pv 3) pa_nil))))))) pss_nil)
      (pss_one (ps_ret (pv 3))))))))), ?_⟩
      walk_at "rd"
      refine ⟨_, _, _, n, _, rfl, .inr (.inr (.inl rfl)), ?_, hF, hF3, hR, hR2, h0, h1, fun p' H1 e1 q1 => k p' H1 (by walk_at "ex") q1⟩
      walk_at "hk"
    · refine ⟨_, (pss_cons (ps_par3 (i := 4) (j := 5) (l := 6) rfl sc_Lgoes.nd rfl rfl rfl (by decide) (by decide) (by decide) rfl rfl rfl (pa_cons (pe_ix ix_tup (pv 0) pe_int (fun _ _ => rfl)) (pa_cons (pe_ix ix_tup (pv 3) pe_int (fun _ _ => rfl)) (pa_cons (pe_ix ix_tup (pv 3) pe_int (fun _ _ => rfl)) pa_nil))) rfl)
      (pss_cons (ps_if (PW.pt (pw_or (pt_cmpR op_eq (pv 4) pe_str (nomark _)) (pw_or1 (PW.pt (pw_and (pt_cmpR op_eq (pv 4) pe_str (nomark _)) (pw_and1 (pt_cmpR op_eq (pv 6) (pe_ix ix_tup (pv 0) pe_int (fun _ _ => rfl)) (nomark _)))))))) (pss_one (ps_ret (pe_tup (pa_cons (pe_op op_mod (pe_callTy c_int (by rfl) T.n_int (by decide +kernel) (pa_cons (pe_op op_sub (pv 5) (pe_ix ix_tup (pv 0) (pe_un un_neg pe_int) (fun _ _ => rfl))) pa_nil)) (pv 2)) (pa_cons (pv 6) pa_nil))))) pss_nil)
      (pss_cons (ps_if (pt_cmpR op_eq (pv 4) pe_str (nomark _)) (pss_one (ps_ret (pe_tup (pa_cons (pe_op op_sub (pe_op op_sub (pv 2) pe_int) (pv 5)) (pa_cons (pe_op op_sub (pe_op op_sub (pv 1) pe_int) (pv 6)) pa_nil))))) pss_nil)
      (pss_cons (ps_if (PW.pt (pw_and (pt_cmpR op_in_seq (pv 4) (pe_tup (pa_cons pe_str (pa_cons pe_str pa_nil))) (by rfl)) (pw_and (pt_cmpR op_in_seq (pv 6) (pe_slice sl_tup (pv 0) (po_some pe_int) po_none) (by rfl)) (pw_and1 (PW.pt (pw_or (pt_cmpR op_eq (pv 4) pe_str (nomark _)) (pw_or1 (pt_cmpR op_eq (pv 5) pe_int (nomark _))))))))) (pss_one (ps_ret (pe_tup (pa_cons (pv 5) (pa_cons (pe_op op_sub (pe_op op_add (pe_ix ix_tup (pv 0) pe_int (fun _ _ => rfl)) (pe_ix ix_tup (pv 0) pe_int (fun _ _ => rfl))) (pv 6)) pa_nil))))) pss_nil)
      (pss_cons (ps_if (PW.pt (pw_and (pt_cmpR op_eq (pv 4) pe_str (nomark _)) (pw_and1 (pt_cmpR op_in_seq (pv 6) (pe_slice sl_tup (pv 0) (po_some pe_int) (po_some pe_int)) (by rfl))))) (pss_cons (ps_set (i := 7) sc_Lgoes.nd rfl (Or.inl rfl) (pe_op op_mod (pe_callTy c_int (by rfl) T.n_int (by decide +kernel) (pa_cons (pe_op op_add (pe_ifExp (pt_cmpR op_eq (pv 6) (pe_ix ix_tup (pv 0) pe_int (fun _ _ => rfl)) (nomark _)) (pe_op op_add (pv 2) (pv 5)) (pe_op op_sub (pe_op op_sub (pv 2) pe_int) (pv 5))) (pe_ix ix_tup (pv 0) pe_int (fun _ _ => rfl))) pa_nil)) (pe_op op_mul pe_int (pv 2))))
      (pss_one (ps_ret (pe_ifExp (pt_cmpR op_ge (pv 7) (pv 2) (nomark _)) (pe_tup (pa_cons (pe_op op_sub (pv 7) (pv 2)) (pa_cons (pe_ix ix_tup (pv 0) pe_int (fun _ _ => rfl)) pa_nil))) (pe_tup (pa_cons (pe_op op_sub (pe_op op_sub (pv 2) pe_int) (pv 7)) (pa_cons (pe_ix ix_tup (pv 0) pe_int (fun _ _ => rfl)) pa_nil))))))) pss_nil)
      (pss_cons (ps_if (pt_cmpR op_in_seq (pv 4) (pe_tup (pa_cons pe_str (pa_cons pe_str (pa_cons pe_str (pa_cons pe_str pa_nil))))) (by rfl)) (pss_one (ps_ret (pe_call G_Lopen (hr.mono (by decide)) (by rfl) T.m_Lopen T.k_Lopen T.b_Lopen .nil pass0 (pa_cons (pv 4) (pa_cons (pv 1) (pa_cons (pv 2) (pa_cons (pv 3) pa_nil))))))) pss_nil)
      (pss_one (ps_ret (pv 3))))))))), ?_⟩
      walk_at "rd"
      refine ⟨_, _, _, n, _, rfl, .inr (.inr (.inr rfl)), ?_, hF, hF3, hR, hR2, h0, h1, fun p' H1 e1 q1 => k p' H1 (by walk_at "ex") q1⟩
      walk_at "hk"
end
end My

set_option Elab.async false
set_option linter.all false
set_option maxRecDepth 100000
set_option maxHeartbeats 8000000
namespace My
open PySem PySem.Spec PyProof.Rows L2 Sx
local macro_rules | `(tactic| walk_at "nb") => `(tactic| first | exact NB.tup | exact NB.ints | exact NB.len (of_decide_eq_true rfl) | exact NB.at0b rfl | exact NB.at3b rfl | exact NB.ins | exact NB.own | exact NB.frz | exact NB.refs (by assumption) | assumption)
local macro_rules | `(tactic| walk_at "ne") => `(tactic| first | assumption | exact Ne.symm (by assumption) | exact ne_of_none (by assumption) (by assumption) | exact Ne.symm (ne_of_none (by assumption) (by assumption)))
local macro_rules | `(tactic| walk_at "hk") => `(tactic| first
  | assumption
  | exact upd_same
  | (refine' (upd_ne ?hkne).trans ?hkq; (case hkne => walk_at "ne"); (case hkq => walk_at "hk"))
  | (refine' Ex.kp (by assumption) _ _ ?hkq ?hkn; (case hkq => walk_at "hk"); (case hkn => walk_at "nb")))
local macro_rules | `(tactic| walk_at "rd1") => `(tactic| first
  | ((with_reducible refine' x_var ?hx ?_); (case hx => exact rfl))
  | with_reducible refine x_c ?_
  | with_reducible refine x_op ?_
  | with_reducible refine x_un ?_
  | with_reducible refine x_I0 ?_
  | with_reducible refine x_U ?_
  | ((with_reducible refine x_I ?hc ?_); (case hc => first | exact (by decide : (0 : Int) < _) | (show (0 : Int) < _; omega) | (show CMul _ _; first | exact .inl ⟨by omega, by omega⟩ | exact .inr ⟨by omega, by omega⟩) | (show CDiv _ _; exact ⟨by omega, by omega⟩) | (show CDivW _ _; exact wide_div (b := 200) (by omega) (by assumption) (by decide) (by decide)) | (show CDivW _ _; exact wide_div (b := 31) (by omega) (by omega) (by decide) (by decide))))
  | with_reducible refine x_EqI ?_
  | with_reducible refine x_NeI ?_
  | ((with_reducible refine x_EqSt ?h ?_); (case h => decide +kernel))
  | ((with_reducible refine x_EqSf ?h ?_); (case h => decide +kernel))
  | ((with_reducible refine x_NeSt ?h ?_); (case h => decide +kernel))
  | ((with_reducible refine x_NeSf ?h ?_); (case h => decide +kernel))
  | with_reducible refine x_EqS ?_
  | with_reducible refine x_NeS ?_
  | ((with_reducible refine' x_ixL ?hq ?hi ?_); (case hq => walk_at "hk"); (case hi => first | exact rfl | assumption))
  | ((with_reducible refine' x_ixT ?hq ?hi ?_); (case hq => walk_at "hk"); (case hi => first | exact rfl | assumption))
  | with_reducible refine x_chain ?_
  | with_reducible refine x_tup ?_
  | with_reducible refine x_lst ?_
  | ((with_reducible refine x_lenNew ?hl ?_); (case hl => exact Nat.le_of_ble_eq_true rfl); intro _ _ _ _ _)
  | ((with_reducible refine x_new ?_); intro _ _ _ _ _)
  | with_reducible refine x_sl ?_
  | with_reducible refine x_noPart ?_
  | with_reducible refine x_part ?_
  | with_reducible refine x_ex_int ?_
  | with_reducible refine x_ex_bl ?_
  | with_reducible refine x_ex_2 ?_
  | with_reducible refine x_test ?_
  | with_reducible refine x_B ?_
  | with_reducible refine x_and ?_
  | with_reducible refine x_or ?_
  | with_reducible refine x_not ?_
  | with_reducible refine x_andV ?_
  | with_reducible refine x_orV ?_
  | with_reducible refine x_notV ?_
  | with_reducible refine x_ifE ?_
  | with_reducible refine x_iteT ?_
  | with_reducible refine x_iteF ?_
  | ((with_reducible refine x_iteD ?_ ?_) <;> intro _)
  | ((with_reducible refine x_iteN ?_ ?_) <;> intro _)
  | with_reducible refine x_if ?_
  | with_reducible refine x_seq ?_
  | with_reducible refine x_next ?_
  | with_reducible refine x_asg ?_
  | with_reducible refine x_gName ?_
  | ((with_reducible refine' x_gTup ?hq ?hn ?_); (case hq => walk_at "hk"); (case hn => exact rfl))
  | with_reducible refine x_gCons ?_
  | with_reducible refine x_gNil ?_
  | ((with_reducible refine' x_gConsE ?h ?_); (case h => exact rfl))
  | ((with_reducible refine x_gNilE ?h ?_); (case h => exact rfl))
  | with_reducible refine x_ret ?_
  | with_reducible refine x_drop ?_
  | with_reducible refine x_par ?_
  | ((with_reducible refine' x_aug ?hx ?_); (case hx => exact rfl))
  | with_reducible refine x_ipI ?_
  | with_reducible refine x_augS ?_
  | with_reducible refine x_gSub ?_
  | ((with_reducible refine' x_setL ?hq ?hi ?_); (case hq => walk_at "hk"); (case hi => first | exact rfl | assumption))
  | with_reducible refine x_cons ?_
  | with_reducible refine x_nil ?_
  | with_reducible refine x_CB ?_
  | with_reducible refine x_abs ?_
  | with_reducible refine x_intI ?_
  | with_reducible refine x_intB ?_
  | ((with_reducible refine' x_lenL ?hq ?_); (case hq => walk_at "hk"))
  | ((with_reducible refine' x_lenT ?hq ?_); (case hq => walk_at "hk"))
  | ((with_reducible refine x_iteTe ?h ?_); (case h => exact rfl))
  | ((with_reducible refine x_iteFe ?h ?_); (case h => exact rfl))
  | walk_at "use"
  | with_reducible refine x_callS ?_
  | ((with_reducible refine x_lc ?_))
  | ((with_reducible refine x_for ?_))
  | ((with_reducible refine x_iR1 ?_))
  | ((with_reducible refine x_iL ?_))
  | ((with_reducible refine x_iZ ?_))
  | ((with_reducible refine x_yes ?_))
  | ((with_reducible refine' x_NIDt ?hq ?_); (case hq => assumption))
  | ((with_reducible refine' x_NIDf ?hq ?_); (case hq => assumption))
  | ((with_reducible refine' x_IIDf ?hq ?_); (case hq => assumption))
  | ((with_reducible refine' x_IIDt ?hq ?_); (case hq => assumption))
  | ((with_reducible refine' x_ixDs ?hd ?hq ?_); (case hd => assumption); (case hq => assumption))
  | ((with_reducible refine x_InSt ?h ?_); (case h => decide +kernel))
  | ((with_reducible refine x_InSf ?h ?_); (case h => decide +kernel))
  | ((with_reducible refine' x_notInI ?hq ?_); (case hq => walk_at "hk"))
  | ((with_reducible refine' x_inTt ?hq ?hv ?ha ?he ?_); (case hq => walk_at "hk"); (case hv => exact rfl); (case ha => exact rfl); (case he => decide +kernel))
  | ((with_reducible refine' x_inTf ?hq ?hv ?ha ?he ?_); (case hq => walk_at "hk"); (case hv => exact rfl); (case ha => exact rfl); (case he => decide +kernel))
  | ((with_reducible refine' x_slT ?hq ?hw ?_); (case hq => walk_at "hk"); (case hw => with_unfolding_all exact of_decide_eq_true rfl))
  | ((with_reducible refine' x_slL ?hq ?_); (case hq => walk_at "hk"))
  | ((with_reducible refine' x_catT ?hq ?hr ?n1 ?n2 ?hl ?_); (case hq => walk_at "hk"); (case hr => walk_at "hk"); (case n1 => exact List.cons_ne_nil _ _); (case n2 => exact List.cons_ne_nil _ _); (case hl => exact Nat.le_of_ble_eq_true rfl))
  | ((with_reducible refine x_bm ?_))
  | ((with_reducible refine x_lstRg ?_))
  | ((with_reducible refine x_rg1 ?_))
  | ((with_reducible refine And.intro ?h ?_); (case h => exact tyL (by assumption)))
  | dsimp only)
local macro_rules | `(tactic| walk_at "use") => `(tactic| fail)
local macro_rules | `(tactic| walk_at "rd") => `(tactic| repeat' (walk_at "rd1"))
local macro_rules | `(tactic| walk_at "ex") => `(tactic| first | exact Ex.refl _ | assumption | (refine' Ex.trans ?he (by assumption); (case he => walk_at "ex")))
local macro_rules | `(tactic| walk_at "rd1") => `(tactic| first
  | ((with_reducible refine x_iteDf ?h ?_); (case h => exact rfl))
  | ((with_reducible refine x_iteDt ?h ?_); (case h => exact rfl))
  | ((with_reducible refine x_iteNf ?h ?_); (case h => exact rfl))
  | ((with_reducible refine x_iteNt ?h ?_); (case h => exact rfl))
  | ((with_reducible refine x_isiI (r := true) ?h ?_); (case h => decide +kernel))
  | ((with_reducible refine x_isiI (r := false) ?h ?_); (case h => decide +kernel))
  | ((with_reducible refine x_isiS (r := true) ?h ?_); (case h => decide +kernel))
  | ((with_reducible refine x_isiS (r := false) ?h ?_); (case h => decide +kernel))
  | ((with_reducible refine x_isiB (r := true) ?h ?_); (case h => decide +kernel))
  | ((with_reducible refine x_isiB (r := false) ?h ?_); (case h => decide +kernel))
  | ((with_reducible refine' x_isiT (r := true) ?hp ?h ?_); (case hp => walk_at "hk"); (case h => decide +kernel))
  | ((with_reducible refine' x_isiT (r := false) ?hp ?h ?_); (case hp => walk_at "hk"); (case h => decide +kernel))
  | ((with_reducible refine' x_isiL (r := true) ?hp ?h ?_); (case hp => walk_at "hk"); (case h => decide +kernel))
  | ((with_reducible refine' x_isiL (r := false) ?hp ?h ?_); (case hp => walk_at "hk"); (case h => decide +kernel))
  | ((with_reducible refine' x_isi2L ?hp ?hl ?_); (case hp => walk_at "hk"); (case hl => walk_at "hk"))
  | ((with_reducible refine' x_isi2T ?hp ?hl ?_); (case hp => walk_at "hk"); (case hl => walk_at "hk"))
  | ((with_reducible refine' x_tupOfL ?hq ?_); (case hq => walk_at "hk"))
  | ((with_reducible refine' x_tupOfT ?hq ?_); (case hq => walk_at "hk"))
  | ((with_reducible refine x_lenS ?h ?_); (case h => exact Nat.le_of_ble_eq_true rfl))
  | ((with_reducible refine' x_all ?hq ?_); (case hq => walk_at "hk"))
  | with_reducible refine x_lenSet ?_)
local macro_rules | `(tactic| walk_at "nb") => `(tactic| first | exact NB.xd | exact NB.dK)
local macro_rules | `(tactic| walk_at "rd1") => `(tactic| first
  | with_reducible refine Er.x_par3 ?_
  | with_reducible refine Er.x_ex_3 ?_
  | with_reducible refine Er.x_revL0 ?_
  | ((with_reducible refine' Er.x_revL ?hq ?_); (case hq => walk_at "hk"))
  | with_reducible refine Er.x_dget2 ?_
  | with_reducible refine x_dict0 ?_
  | ((with_reducible refine x_pow ?hc ?_); (case hc => exact ⟨by decide, by decide, by decide⟩))
  | ((with_reducible refine And.intro ?h ?_); (case h => exact tyL (by walk_at "hk")))
  | ((with_reducible refine' Er.x_dis ?hq ?_); (case hq => walk_at "hk"))
  | ((with_reducible refine' Er.x_dgo ?hq ?he ?_); (case hq => walk_at "hk"); (case he => exact rfl)))
local macro_rules | `(tactic| walk_at "rd1") => `(tactic| first
  | with_reducible refine Er.x_callSS ?_
  | ((with_reducible refine Er.x_mulS2 ?h ?h0 ?h1 ?_); (case h => decide); (case h0 => decide); (case h1 => decide)))
local macro_rules | `(tactic| walk_at "rd1") => `(tactic| first
  | with_reducible refine Er.x_iR2 ?_
  | with_reducible refine Er.x_iEn ?_
  | with_reducible refine Er.x_cont ?_
  | ((with_reducible refine Er.x_isBt ?h ?_); (case h => exact rfl))
  | ((with_reducible refine Er.x_isBf ?h ?_); (case h => exact rfl))
  | ((with_reducible refine Er.x_isNBt ?h ?_); (case h => exact rfl))
  | ((with_reducible refine Er.x_isNBf ?h ?_); (case h => exact rfl))
  | with_reducible refine Er.x_isB ?_
  | with_reducible refine Er.x_isNB ?_)
local macro_rules | `(tactic| walk_at "nb") => `(tactic| exact NB.dT)
local macro_rules | `(tactic| walk_at "rd1") => `(tactic| first
  | with_reducible refine Er.x_dNotIn ?_
  | with_reducible refine Er.x_dPut ?_
  | with_reducible refine Er.x_dnewT ?_)

section
variable {P : Program} {w : World} {K : PySem.W.Frag} {mg : Str → Option Value} {base : Heap} {a : Ad} {H H1 : Hp} {Q : VK} {E : XK} {p b : Addr} {v u : V}
/-! one round -/
theorem undoN (T : Txt K w mg a) : FnOk P w K mg base CX0 1 a.a_Lundo a.fd_Lundo ["_law_calls"] (fun _ _ _ _ => False) := by
  refine T.F_Lundo.ok sc_Lundo (fun vs H Q E h => h.elim) (fun cdv A outer s H vs Q E hr h => ?_)
  exact h.elim
def sp_Lled : Sp := fun vs H Q _ => ∃ (l c p : Addr) (z : Str) (F R n : Int), vs = [.ref l, .int F, .int R, .ref p, .int 1] ∧ Wd z ∧ H l = some (.lst [.ref c]) ∧ H c = some (.tup [.str z]) ∧ H p = some (plc F n) ∧ 2 ≤ F ∧ F ≤ 3 ∧ 1 ≤ R ∧ R < 1000000 ∧ 0 ≤ n ∧ n < F * R ∧
  ∀ p' H1, Ex H H1 → H1 p' = some (plc F (gg z F R n)) → Q (.ref p') H1
theorem wd_shaped {z : Str} (h : Wd z) : SeqAt.shaped (.list [.tuple [.str z]]) = true := by
  rcases h with rfl | rfl | rfl | rfl <;> decide +kernel
theorem ok_Lled (T : Txt K w mg a) : FnOk P w K mg base CX0 3 a.a_Lled a.fd_Lled ["_law_calls", "_law_files", "_law_rows", "_law_place", "_law_rounds_here"] sp_Lled := by
  refine T.F_Lled.ok sc_Lled (fun vs H Q E h => ?_) (fun cdv A outer s H vs Q E hr h => ?_)
  · obtain ⟨l, c, p, z, F, R, n, rfl, _⟩ := h; rfl
  · obtain ⟨l, c, p, z, F, R, n, rfl, hz, hl, hc, hp, hF, hF3, hR, hR2, h0, h1, k⟩ := h
    have G_Lgoes := ok_Lgoes (P := P) (base := base) T
    have G_Lundo : FnOk P w K mg base CX0 1 a.a_Lundo a.fd_Lundo ["_law_calls"] (fun _ _ _ _ => False) := undoN T
    refine ⟨_, (pss_cons (ps_set (i := 5) sc_Lled.nd rfl (Or.inl rfl) (pe_ifExp (pt_cmpR op_gt (pv 4) pe_int (nomark _)) (pv 0) (pe_call G_Lundo (hr.mono (by decide)) (by rfl) T.m_Lundo T.k_Lundo T.b_Lundo .nil pass0 (pa_cons (pv 0) pa_nil))))
      (pss_cons (ps_for PassesOwn.never rfl (pi_range1 (by rfl) T.n_range (pa_cons (pe_op op_mul (pe_callB c_abs (by rfl) T.n_abs (by decide +kernel) (pa_cons (pv 4) pa_nil)) (pe_callTy c_int (by rfl) T.n_int (by decide +kernel) (pa_cons (pe_cmpR (op_neD hr.units) (pv 0) (pe_lst pa_nil) (nomark _)) pa_nil))) pa_nil)) (pg_name (i := 6) sc_Lled.nd rfl (Or.inl rfl)) (pss_one (ps_for PassesOwn.never rfl (pi_list (pv 5)) (pg_name (i := 7) sc_Lled.nd rfl (Or.inl rfl)) (pss_one (ps_set (i := 3) sc_Lled.nd rfl (Or.inl rfl) (pe_call G_Lgoes (hr.mono (by decide)) (by rfl) T.m_Lgoes T.k_Lgoes T.b_Lgoes .nil pass0 (pa_cons (pv 7) (pa_cons (pv 1) (pa_cons (pv 2) (pa_cons (pv 3) pa_nil))))))))))
      (pss_one (ps_ret (pv 3))))), ?_⟩
    walk_at "rd"
    rotate_left
    · exfalso; omega
    rename_i e0 G1 ge _ g1
    have hl1 : G1 l = some (.lst [.ref c]) := by walk_at "hk"
    have hc1 : G1 c = some (.tup [.str z]) := by walk_at "hk"
    have hp1 : G1 p = some (plc F n) := by walk_at "hk"
    have ex1 : Ex H G1 := by walk_at "ex"
    refine x_NeD (d := .list [.tuple [.str z]]) (e := .list []) (.lst (SqL.of hl1) (.cons (.tup (SqT.of hc1) (.cons (.str _) .nil)) .nil)) (.lst (SqL.of g1) .nil) (wd_shaped hz) (by decide +kernel) ?_
    rw [show (!PyData.eqv (.list [.tuple [.str z]]) (.list [])) = true from by simp [PyData.eqv, PyData.eqvAll]]
    clear ge g1
    walk_at "rd"
    rw [show ((if (1 : Int) < 0 then -1 else 1) * (if true = true then 1 else 0) : Int) = 1 from by decide]
    refine for_rng (by decide) (by decide) (fun i σ H' => Ex G1 H' ∧ ∃ (pp : Addr) (v6 v7 : Option V), σ = [some (.ref l), some (.int F), some (.int R), some (.ref pp), some (.int 1), some (.ref l), v6, v7] ∧ H' pp = some (plc F (Nt.iter (gg z F R) i n)))
      ⟨Ex.refl _, p, _, _, rfl, hp1⟩ (fun i σ H2 hi h => ?_) (fun σ H2 h => ?_)
    · obtain ⟨e2, pp, v6, v7, rfl, hpp⟩ := h
      obtain rfl : i = 0 := by omega
      have hs2 : H2 l = some (.lst [.ref c]) := e2.kp _ _ hl1 (NB.at0b rfl)
      have hz2 : H2 c = some (.tup [.str z]) := e2.kp _ _ hc1 NB.tup
      walk_at "rd"
      refine Er.for_unroll (xs := [V.ref c]) hs2 ?_
      refine Er.x_unr1 ?_
      walk_at "rd"
      refine ⟨_, _, z, F, R, n, rfl, hz, hz2, hpp, hF, hF3, hR, hR2, h0, h1, fun p' H3 e3 q3 => ?_⟩
      walk_at "rd"
      refine ⟨e3.kp _ _ hs2 (NB.at0b rfl), ?_⟩
      refine Er.x_unr0 ?_
      exact ⟨e2.trans e3, p', _, _, rfl, q3⟩
    · obtain ⟨e2, pp, v6, v7, rfl, hpp⟩ := h
      walk_at "rd"
      exact k pp H2 (ex1.trans e2) hpp
/-! round after round -/
theorem plc_eqv {F x y : Int} : PyData.eqv (.tuple [.int (x / F), .int (x % F)]) (.tuple [.int (y / F), .int (y % F)]) = decide (x = y) := by
  have : ((x / F = y / F ∧ x % F = y % F) ↔ x = y) := by
    constructor
    · rintro ⟨e1, e2⟩
      have a := Int.mul_ediv_add_emod x F
      have b := Int.mul_ediv_add_emod y F
      rw [e1, e2, b] at a
      exact a.symm
    · rintro rfl; exact ⟨rfl, rfl⟩
  simp only [PyData.eqv, PyData.eqvAll, Bool.and_true]
  rw [Bool.eq_iff_iff]
  simp [this]
theorem plc_small {F x : Int} (hF : 2 ≤ F) (h0 : 0 ≤ x) (h1 : x < 10000000) : (x / F).natAbs < 10 ^ 59 ∧ (x % F).natAbs < 10 ^ 59 := by
  have a := Int.ediv_nonneg h0 (show 0 ≤ F by omega)
  have b := Int.ediv_le_self F h0
  have c := Int.emod_nonneg x (show F ≠ 0 by omega)
  have d : x % F ≤ x := by
    have e1 := Int.mul_ediv_add_emod x F
    have e2 := Int.mul_nonneg (show 0 ≤ F by omega) a
    omega
  exact ⟨Nat.lt_of_le_of_lt (show _ ≤ 10000000 by omega) (by decide +kernel), Nat.lt_of_le_of_lt (show _ ≤ 10000000 by omega) (by decide +kernel)⟩
theorem plc_dp {F x : Int} (h : H p = some (plc F x)) : Dp K H (.ref p) (.tuple [.int (x / F), .int (x % F)]) := .tup (SqT.of h) (.cons (.int _) (.cons (.int _) .nil))
theorem plc_shaped {F x : Int} (hF : 2 ≤ F) (h0 : 0 ≤ x) (h1 : x < 10000000) : SeqAt.shaped (.tuple [.int (x / F), .int (x % F)]) = true := by
  obtain ⟨a, b⟩ := plc_small hF h0 h1
  exact Er.shaped_sml (Sml.tup (b := 0) (e := 0) (n := 2) (Er.All.cons (Sml.int a) (Er.All.cons (Sml.int b) Er.All.nil)) (Nat.le_refl _)) (by decide)
def Plcs (F : Int) (g : Int → Int) (n : Int) (H : Hp) (xs : List V) : Prop := ∀ i x, xs[i]? = some x → ∃ b, x = .ref b ∧ H b = some (plc F (Nt.iter g i n))
theorem Plcs.tx {F n : Int} {g : Int → Int} {xs : List V} (h : Plcs F g n H xs) (e : Tx H H1) : Plcs F g n H1 xs := fun i x hx => let ⟨b, e1, e2⟩ := h i x hx; ⟨b, e1, e _ _ e2⟩
theorem Plcs.nb {F n : Int} {g : Int → Int} {xs : List V} (h : Plcs F g n H xs) : NB (.lst xs) := NB.refs fun v hv => by
  obtain ⟨i, hi⟩ := List.getElem?_of_mem hv
  obtain ⟨b, e, _⟩ := h i v hi
  exact ⟨b, e⟩
theorem Plcs.app {F n : Int} {g : Int → Int} {xs : List V} (h : Plcs F g n H xs) (hb : H b = some (plc F (Nt.iter g xs.length n))) : Plcs F g n H (xs ++ [.ref b]) := fun i x hx => by
  by_cases e : i < xs.length
  · rw [List.getElem?_append_left e] at hx
    exact h i x hx
  · have : i = xs.length := by
      have := (List.getElem?_eq_some_iff.mp hx).1
      rw [List.length_append] at this
      have : ([V.ref b] : List V).length = 1 := rfl
      omega
    subst this
    rw [List.getElem?_append_right (Nat.le_refl _), Nat.sub_self] at hx
    exact ⟨b, (Option.some.inj hx).symm, hb⟩
def sp_Lrounds : Sp := fun vs H Q _ => ∃ (l c p : Addr) (z : Str) (F R n : Int) (o : Nat), vs = [.ref l, .int F, .int R, .ref p] ∧ Wd z ∧ H l = some (.lst [.ref c]) ∧ H c = some (.tup [.str z]) ∧ H p = some (plc F n) ∧ 2 ≤ F ∧ F ≤ 3 ∧ 1 ≤ R ∧ R < 1000000 ∧ 0 ≤ n ∧ n < F * R ∧ Nt.Sys (gg z F R) (F * R) o ∧ o ≤ 1000000 ∧
  ∀ q L xs H1, Ex H H1 → H1 q = some (.lst xs) → 0 < L → Nt.iter (gg z F R) L n = n → L ∣ o → xs.length = L → Plcs F (gg z F R) n H1 xs → Q (.ref q) H1
theorem ok_Lrounds (T : Txt K w mg a) : FnOk P w K mg base CX0 4 a.a_Lrounds a.fd_Lrounds ["_law_calls", "_law_files", "_law_rows", "_law_place"] sp_Lrounds := by
  refine T.F_Lrounds.ok sc_Lrounds (fun vs H Q E h => ?_) (fun cdv A outer s H vs Q E hr h => ?_)
  · obtain ⟨l, c, p, z, F, R, n, o, rfl, _⟩ := h; rfl
  · obtain ⟨l, c, p, z, F, R, n, o, rfl, hz, hl, hc, hp, hF, hF3, hR, hR2, h0, h1, sy, ho, k⟩ := h
    have G_Lled := ok_Lled (P := P) (base := base) T
    have fr : F * R ≤ 3 * R := Int.mul_le_mul_of_nonneg_right hF3 (by omega)
    refine ⟨_, (pss_cons (ps_par (i := 4) (j := 5) rfl sc_Lrounds.nd rfl rfl (by decide) rfl rfl (pa_cons (pe_lst (pa_cons (pv 3) pa_nil)) (pa_cons (pe_call G_Lled (hr.mono (by decide)) (by rfl) T.m_Lled T.k_Lled T.b_Lled .nil pass0 (pa_cons (pv 0) (pa_cons (pv 1) (pa_cons (pv 2) (pa_cons (pv 3) (pa_cons pe_int pa_nil)))))) pa_nil)) rfl)
      (pss_cons (ps_while PassesOwn.never (pt_cmpR (op_neD hr.units) (pv 5) (pv 3) (nomark _)) (pss_cons (ps_expr (pe_bm PySem.F.plainAttrs_list PySem.F.slot_list_append PySem.F.type_list_append mt_append (pv 4) (pa_cons (pv 5) pa_nil)))
      (pss_one (ps_set (i := 5) sc_Lrounds.nd rfl (Or.inl rfl) (pe_call G_Lled (hr.mono (by decide)) (by rfl) T.m_Lled T.k_Lled T.b_Lled .nil pass0 (pa_cons (pv 0) (pa_cons (pv 1) (pa_cons (pv 2) (pa_cons (pv 5) (pa_cons pe_int pa_nil))))))))))
      (pss_one (ps_ret (pv 4))))), ?_⟩
    walk_at "rd"
    rename_i q G1 e1 fq g1
    refine ⟨l, c, p, z, F, R, n, rfl, hz, by walk_at "hk", by walk_at "hk", by walk_at "hk", hF, hF3, hR, hR2, h0, h1, fun pp G2 e2 hpp => ?_⟩
    have hq2 : G2 q = some (.lst [.ref p]) := e2.kp _ _ g1 (NB.at0b rfl)
    have hp2 : G2 p = some (plc F n) := by walk_at "hk"
    walk_at "rd"
    refine Er.x_while (fun σ H' => Ex H H' ∧ ∃ (xs : List V) (pp : Addr), σ = [some (.ref l), some (.int F), some (.int R), some (.ref p), some (.ref q), some (.ref pp)] ∧ H' q = some (.lst xs) ∧ 0 < xs.length ∧ xs.length ≤ o ∧ Plcs F (gg z F R) n H' xs ∧ H' pp = some (plc F (Nt.iter (gg z F R) xs.length n)) ∧ (∀ i, 0 < i → i < xs.length → Nt.iter (gg z F R) i n ≠ n))
      (fun (_ : L2.St) (H' : Hp) => match H' q with | some (.lst xs) => o + 1 - xs.length | _ => 0) ⟨e1.trans e2, [.ref p], pp, rfl, hq2, Nat.one_pos, sy.pos, ?_, hpp, fun i a b => by have : ([V.ref p] : List V).length = 1 := rfl; omega⟩ ?_
    · intro i x hx
      have : i = 0 := by
        have := (List.getElem?_eq_some_iff.mp hx).1
        have : ([V.ref p] : List V).length = 1 := rfl
        omega
      subst this
      exact ⟨p, (Option.some.inj hx).symm, hp2⟩
    rintro σ H' ⟨e3, xs, pp, rfl, hq, xl, xo, pl, hpp, low⟩
    obtain ⟨b0, b1⟩ := sy.it h0 h1 xs.length
    have hp3 : H' p = some (plc F n) := e3.kp _ _ hp NB.tup
    walk_at "rd"
    refine x_NeD (plc_dp hpp) (plc_dp hp3) (plc_shaped hF b0 (by omega)) (plc_shaped hF h0 (by omega)) ?_
    rw [plc_eqv]
    walk_at "rd"
    · rename_i ne
      refine Er.x_goOn ?_
      walk_at "rd"
      refine Er.x_append hq (Nat.lt_of_le_of_lt (show _ ≤ 1000000 by omega) (by decide)) ?_
      have tx : Tx H' (upd H' q (.lst (xs ++ [V.ref pp]))) := Tx.set hq
      have e4 : Ex H (upd H' q (.lst (xs ++ [V.ref pp]))) := Ex.mut e3 fq
      have hq4 : (upd H' q (.lst (xs ++ [V.ref pp]))) q = some (.lst (xs ++ [V.ref pp])) := upd_same
      have pl4 := (pl.app hpp).tx tx
      have hpp4 := tx _ _ hpp
      generalize upd H' q (.lst (xs ++ [V.ref pp])) = H4 at tx e4 hq4 pl4 hpp4 ⊢
      walk_at "rd"
      refine ⟨l, c, pp, z, F, R, Nt.iter (gg z F R) xs.length n, rfl, hz, e4.kp _ _ hl (NB.at0b rfl), e4.kp _ _ hc NB.tup, hpp4, hF, hF3, hR, hR2, b0, b1, fun p5 H5 e5 hp5 => ?_⟩
      walk_at "rd"
      have len : (xs ++ [V.ref pp]).length = xs.length + 1 := by rw [List.length_append]; rfl
      have lt : xs.length < o := by
        rcases Nat.lt_or_ge xs.length o with z | z
        · exact z
        · have : xs.length = o := by omega
          rw [this] at ne
          exact absurd (sy.home n h0 h1) ne
      have hq5 := e5.kp _ _ hq4 pl4.nb
      refine ⟨⟨e4.trans e5, _, p5, rfl, hq5, by omega, by omega, pl4.tx e5.tx, ?_, fun i a b => ?_⟩, ?_⟩
      · rw [len]; exact hp5
      · rw [len] at b
        by_cases e : i = xs.length
        · rw [e]; exact ne
        · exact low i a (by omega)
      · show (match H5 q with | some (.lst xs) => o + 1 - xs.length | _ => 0) < (match H' q with | some (.lst xs) => o + 1 - xs.length | _ => 0)
        rw [hq5, hq]
        show o + 1 - (xs ++ [V.ref pp]).length < o + 1 - xs.length
        rw [len]
        omega
    · rename_i eq
      walk_at "rd"
      exact k q xs.length xs H' e3 hq xl eq (sy.loop h0 h1 xl eq low) rfl pl
/-! the least common multiple -/
def sp_Lmultiple : Sp := fun vs H Q _ => ∃ (q : Addr) (lens : List Nat) (o : Nat), vs = [.ref q] ∧ H q = some (.lst (nv lens)) ∧ 0 < o ∧ o ≤ 1000000 ∧ (∀ l ∈ lens, 0 < l ∧ l ∣ o) ∧ Q (.int (lens.foldl Nat.lcm 1 : Nat)) H
theorem ok_Lmultiple (T : Txt K w mg a) : FnOk P w K mg base CX0 2 a.a_Lmultiple a.fd_Lmultiple ["_law_numbers"] sp_Lmultiple := by
  refine T.F_Lmultiple.ok sc_Lmultiple (fun vs H Q E h => ?_) (fun cdv A outer s H vs Q E hr h => ?_)
  · obtain ⟨q, lens, o, rfl, _⟩ := h; rfl
  · obtain ⟨q, lens, o, rfl, hq, o0, ol, hl, k⟩ := h
    have G_Ldivisor := ok_Ldivisor (P := P) (base := base) T
    refine ⟨_, (pss_cons (ps_set (i := 1) sc_Lmultiple.nd rfl (Or.inl rfl) pe_int)
      (pss_cons (ps_for PassesOwn.never rfl (pi_list (pv 0)) (pg_name (i := 2) sc_Lmultiple.nd rfl (Or.inl rfl)) (pss_one (ps_set (i := 1) sc_Lmultiple.nd rfl (Or.inl rfl) (pe_op op_fdivW (pe_op op_mul (pv 1) (pv 2)) (pe_call G_Ldivisor (hr.mono (by decide)) (by rfl) T.m_Ldivisor T.k_Ldivisor T.b_Ldivisor .nil pass0 (pa_cons (pv 1) (pa_cons (pv 2) pa_nil)))))))
      (pss_one (ps_ret (pv 1))))), ?_⟩
    walk_at "rd"
    refine for_lst hq (fun i σ H' => H' = H ∧ ∃ v2 : Option V, σ = [some (.ref q), some (.int ((lens.take i).foldl Nat.lcm 1 : Nat)), v2] ∧ 0 < (lens.take i).foldl Nat.lcm 1 ∧ (lens.take i).foldl Nat.lcm 1 ∣ o) ⟨rfl, _, rfl, Nat.one_pos, Nat.one_dvd o⟩ (fun i σ H' _ h => by rw [h.1]; exact hq) (fun i x σ H' hx h => ?_) (fun σ H' h => ?_)
    · obtain ⟨rfl, v2, rfl, f0, fd⟩ := h
      unfold nv at hx
      rw [List.getElem?_map, List.getElem?_map] at hx
      cases hq2 : lens[i]? with
      | none => rw [hq2] at hx; cases hx
      | some l =>
        rw [hq2] at hx
        obtain rfl := Option.some.inj hx
        obtain ⟨l0, ld⟩ := hl l (List.mem_of_getElem? hq2)
        have st : (lens.take (i + 1)).foldl Nat.lcm 1 = Nat.lcm ((lens.take i).foldl Nat.lcm 1) l := by
          rw [List.take_succ, hq2, List.foldl_append]
          rfl
        generalize (lens.take i).foldl Nat.lcm 1 = f at *
        have fl := Nat.le_of_dvd o0 fd
        have ll := Nat.le_of_dvd o0 ld
        have g0 : 0 < Nat.gcd l f := Nat.gcd_pos_of_pos_left _ l0
        have gl : Nat.gcd l f ≤ l := Nat.gcd_le_left _ l0
        show tAsg _ _ _ [some (V.ref q), some (V.int (f : Int)), some (V.int (l : Int))] H'
        walk_at "rd"
        refine ⟨f, l, rfl, ?_⟩
        refine x_I (wide_div (b := 200) (by omega) (Nat.lt_of_le_of_lt (show _ ≤ 1000000 by omega) (by decide +kernel)) (by decide) (by decide)) ?_
        have e : ((f : Int) * (l : Int)) / ((Nat.gcd l f : Nat) : Int) = ((Nat.lcm f l : Nat) : Int) := by
          rw [← Int.natCast_mul, ← Int.natCast_ediv, Nat.gcd_comm l f]
          rfl
        rw [e]
        walk_at "rd"
        refine ⟨rfl, some (V.int (l : Int)), ?_, ?_, ?_⟩
        · rw [st]; rfl
        · rw [st]; exact Nat.lcm_pos f0 l0
        · rw [st]; exact Nat.lcm_dvd fd ld
    · obtain ⟨rfl, v2, rfl, f0, fd⟩ := h
      walk_at "rd"
      rw [show (nv lens).length = lens.length from nv_len, List.take_length]
      exact k
end
end My

set_option Elab.async false
set_option linter.all false
set_option maxRecDepth 100000
set_option maxHeartbeats 8000000
namespace My
open PySem PySem.Spec PyProof.Rows L2 Sx
local macro_rules | `(tactic| walk_at "nb") => `(tactic| first | exact NB.tup | exact NB.ints | exact NB.len (of_decide_eq_true rfl) | exact NB.at0b rfl | exact NB.at3b rfl | exact NB.ins | exact NB.own | exact NB.frz | exact NB.refs (by assumption) | assumption)
local macro_rules | `(tactic| walk_at "ne") => `(tactic| first | assumption | exact Ne.symm (by assumption) | exact ne_of_none (by assumption) (by assumption) | exact Ne.symm (ne_of_none (by assumption) (by assumption)))
local macro_rules | `(tactic| walk_at "hk") => `(tactic| first
  | assumption
  | exact upd_same
  | (refine' (upd_ne ?hkne).trans ?hkq; (case hkne => walk_at "ne"); (case hkq => walk_at "hk"))
  | (refine' Ex.kp (by assumption) _ _ ?hkq ?hkn; (case hkq => walk_at "hk"); (case hkn => walk_at "nb")))
local macro_rules | `(tactic| walk_at "rd1") => `(tactic| first
  | ((with_reducible refine' x_var ?hx ?_); (case hx => exact rfl))
  | with_reducible refine x_c ?_
  | with_reducible refine x_op ?_
  | with_reducible refine x_un ?_
  | with_reducible refine x_I0 ?_
  | with_reducible refine x_U ?_
  | ((with_reducible refine x_I ?hc ?_); (case hc => first | exact (by decide : (0 : Int) < _) | (show (0 : Int) < _; omega) | (show CMul _ _; first | exact .inl ⟨by omega, by omega⟩ | exact .inr ⟨by omega, by omega⟩) | (show CDiv _ _; exact ⟨by omega, by omega⟩) | (show CDivW _ _; exact wide_div (b := 200) (by omega) (by assumption) (by decide) (by decide)) | (show CDivW _ _; exact wide_div (b := 31) (by omega) (by omega) (by decide) (by decide))))
  | with_reducible refine x_EqI ?_
  | with_reducible refine x_NeI ?_
  | ((with_reducible refine x_EqSt ?h ?_); (case h => decide +kernel))
  | ((with_reducible refine x_EqSf ?h ?_); (case h => decide +kernel))
  | ((with_reducible refine x_NeSt ?h ?_); (case h => decide +kernel))
  | ((with_reducible refine x_NeSf ?h ?_); (case h => decide +kernel))
  | with_reducible refine x_EqS ?_
  | with_reducible refine x_NeS ?_
  | ((with_reducible refine' x_ixL ?hq ?hi ?_); (case hq => walk_at "hk"); (case hi => first | exact rfl | assumption))
  | ((with_reducible refine' x_ixT ?hq ?hi ?_); (case hq => walk_at "hk"); (case hi => first | exact rfl | assumption))
  | with_reducible refine x_chain ?_
  | with_reducible refine x_tup ?_
  | with_reducible refine x_lst ?_
  | ((with_reducible refine x_lenNew ?hl ?_); (case hl => exact Nat.le_of_ble_eq_true rfl); intro _ _ _ _ _)
  | ((with_reducible refine x_new ?_); intro _ _ _ _ _)
  | with_reducible refine x_sl ?_
  | with_reducible refine x_noPart ?_
  | with_reducible refine x_part ?_
  | with_reducible refine x_ex_int ?_
  | with_reducible refine x_ex_bl ?_
  | with_reducible refine x_ex_2 ?_
  | with_reducible refine x_test ?_
  | with_reducible refine x_B ?_
  | with_reducible refine x_and ?_
  | with_reducible refine x_or ?_
  | with_reducible refine x_not ?_
  | with_reducible refine x_andV ?_
  | with_reducible refine x_orV ?_
  | with_reducible refine x_notV ?_
  | with_reducible refine x_ifE ?_
  | with_reducible refine x_iteT ?_
  | with_reducible refine x_iteF ?_
  | ((with_reducible refine x_iteD ?_ ?_) <;> intro _)
  | ((with_reducible refine x_iteN ?_ ?_) <;> intro _)
  | with_reducible refine x_if ?_
  | with_reducible refine x_seq ?_
  | with_reducible refine x_next ?_
  | with_reducible refine x_asg ?_
  | with_reducible refine x_gName ?_
  | ((with_reducible refine' x_gTup ?hq ?hn ?_); (case hq => walk_at "hk"); (case hn => exact rfl))
  | with_reducible refine x_gCons ?_
  | with_reducible refine x_gNil ?_
  | ((with_reducible refine' x_gConsE ?h ?_); (case h => exact rfl))
  | ((with_reducible refine x_gNilE ?h ?_); (case h => exact rfl))
  | with_reducible refine x_ret ?_
  | with_reducible refine x_drop ?_
  | with_reducible refine x_par ?_
  | ((with_reducible refine' x_aug ?hx ?_); (case hx => exact rfl))
  | with_reducible refine x_ipI ?_
  | with_reducible refine x_augS ?_
  | with_reducible refine x_gSub ?_
  | ((with_reducible refine' x_setL ?hq ?hi ?_); (case hq => walk_at "hk"); (case hi => first | exact rfl | assumption))
  | with_reducible refine x_cons ?_
  | with_reducible refine x_nil ?_
  | with_reducible refine x_CB ?_
  | with_reducible refine x_abs ?_
  | with_reducible refine x_intI ?_
  | with_reducible refine x_intB ?_
  | ((with_reducible refine' x_lenL ?hq ?_); (case hq => walk_at "hk"))
  | ((with_reducible refine' x_lenT ?hq ?_); (case hq => walk_at "hk"))
  | ((with_reducible refine x_iteTe ?h ?_); (case h => exact rfl))
  | ((with_reducible refine x_iteFe ?h ?_); (case h => exact rfl))
  | walk_at "use"
  | with_reducible refine x_callS ?_
  | ((with_reducible refine x_lc ?_))
  | ((with_reducible refine x_for ?_))
  | ((with_reducible refine x_iR1 ?_))
  | ((with_reducible refine x_iL ?_))
  | ((with_reducible refine x_iZ ?_))
  | ((with_reducible refine x_yes ?_))
  | ((with_reducible refine' x_NIDt ?hq ?_); (case hq => assumption))
  | ((with_reducible refine' x_NIDf ?hq ?_); (case hq => assumption))
  | ((with_reducible refine' x_IIDf ?hq ?_); (case hq => assumption))
  | ((with_reducible refine' x_IIDt ?hq ?_); (case hq => assumption))
  | ((with_reducible refine' x_ixDs ?hd ?hq ?_); (case hd => assumption); (case hq => assumption))
  | ((with_reducible refine x_InSt ?h ?_); (case h => decide +kernel))
  | ((with_reducible refine x_InSf ?h ?_); (case h => decide +kernel))
  | ((with_reducible refine' x_notInI ?hq ?_); (case hq => walk_at "hk"))
  | ((with_reducible refine' x_inTt ?hq ?hv ?ha ?he ?_); (case hq => walk_at "hk"); (case hv => exact rfl); (case ha => exact rfl); (case he => decide +kernel))
  | ((with_reducible refine' x_inTf ?hq ?hv ?ha ?he ?_); (case hq => walk_at "hk"); (case hv => exact rfl); (case ha => exact rfl); (case he => decide +kernel))
  | ((with_reducible refine' x_slT ?hq ?hw ?_); (case hq => walk_at "hk"); (case hw => with_unfolding_all exact of_decide_eq_true rfl))
  | ((with_reducible refine' x_slL ?hq ?_); (case hq => walk_at "hk"))
  | ((with_reducible refine' x_catT ?hq ?hr ?n1 ?n2 ?hl ?_); (case hq => walk_at "hk"); (case hr => walk_at "hk"); (case n1 => exact List.cons_ne_nil _ _); (case n2 => exact List.cons_ne_nil _ _); (case hl => exact Nat.le_of_ble_eq_true rfl))
  | ((with_reducible refine x_bm ?_))
  | ((with_reducible refine x_lstRg ?_))
  | ((with_reducible refine x_rg1 ?_))
  | ((with_reducible refine And.intro ?h ?_); (case h => exact tyL (by assumption)))
  | dsimp only)
local macro_rules | `(tactic| walk_at "use") => `(tactic| fail)
local macro_rules | `(tactic| walk_at "rd") => `(tactic| repeat' (walk_at "rd1"))
local macro_rules | `(tactic| walk_at "ex") => `(tactic| first | exact Ex.refl _ | assumption | (refine' Ex.trans ?he (by assumption); (case he => walk_at "ex")))
local macro_rules | `(tactic| walk_at "rd1") => `(tactic| first
  | ((with_reducible refine x_iteDf ?h ?_); (case h => exact rfl))
  | ((with_reducible refine x_iteDt ?h ?_); (case h => exact rfl))
  | ((with_reducible refine x_iteNf ?h ?_); (case h => exact rfl))
  | ((with_reducible refine x_iteNt ?h ?_); (case h => exact rfl))
  | ((with_reducible refine x_isiI (r := true) ?h ?_); (case h => decide +kernel))
  | ((with_reducible refine x_isiI (r := false) ?h ?_); (case h => decide +kernel))
  | ((with_reducible refine x_isiS (r := true) ?h ?_); (case h => decide +kernel))
  | ((with_reducible refine x_isiS (r := false) ?h ?_); (case h => decide +kernel))
  | ((with_reducible refine x_isiB (r := true) ?h ?_); (case h => decide +kernel))
  | ((with_reducible refine x_isiB (r := false) ?h ?_); (case h => decide +kernel))
  | ((with_reducible refine' x_isiT (r := true) ?hp ?h ?_); (case hp => walk_at "hk"); (case h => decide +kernel))
  | ((with_reducible refine' x_isiT (r := false) ?hp ?h ?_); (case hp => walk_at "hk"); (case h => decide +kernel))
  | ((with_reducible refine' x_isiL (r := true) ?hp ?h ?_); (case hp => walk_at "hk"); (case h => decide +kernel))
  | ((with_reducible refine' x_isiL (r := false) ?hp ?h ?_); (case hp => walk_at "hk"); (case h => decide +kernel))
  | ((with_reducible refine' x_isi2L ?hp ?hl ?_); (case hp => walk_at "hk"); (case hl => walk_at "hk"))
  | ((with_reducible refine' x_isi2T ?hp ?hl ?_); (case hp => walk_at "hk"); (case hl => walk_at "hk"))
  | ((with_reducible refine' x_tupOfL ?hq ?_); (case hq => walk_at "hk"))
  | ((with_reducible refine' x_tupOfT ?hq ?_); (case hq => walk_at "hk"))
  | ((with_reducible refine x_lenS ?h ?_); (case h => exact Nat.le_of_ble_eq_true rfl))
  | ((with_reducible refine' x_all ?hq ?_); (case hq => walk_at "hk"))
  | with_reducible refine x_lenSet ?_)
local macro_rules | `(tactic| walk_at "nb") => `(tactic| first | exact NB.xd | exact NB.dK)
local macro_rules | `(tactic| walk_at "rd1") => `(tactic| first
  | with_reducible refine Er.x_par3 ?_
  | with_reducible refine Er.x_ex_3 ?_
  | with_reducible refine Er.x_revL0 ?_
  | ((with_reducible refine' Er.x_revL ?hq ?_); (case hq => walk_at "hk"))
  | with_reducible refine Er.x_dget2 ?_
  | with_reducible refine x_dict0 ?_
  | ((with_reducible refine x_pow ?hc ?_); (case hc => exact ⟨by decide, by decide, by decide⟩))
  | ((with_reducible refine And.intro ?h ?_); (case h => exact tyL (by walk_at "hk")))
  | ((with_reducible refine' Er.x_dis ?hq ?_); (case hq => walk_at "hk"))
  | ((with_reducible refine' Er.x_dgo ?hq ?he ?_); (case hq => walk_at "hk"); (case he => exact rfl)))
local macro_rules | `(tactic| walk_at "rd1") => `(tactic| first
  | with_reducible refine Er.x_callSS ?_
  | ((with_reducible refine Er.x_mulS2 ?h ?h0 ?h1 ?_); (case h => decide); (case h0 => decide); (case h1 => decide)))
local macro_rules | `(tactic| walk_at "rd1") => `(tactic| first
  | with_reducible refine Er.x_iR2 ?_
  | with_reducible refine Er.x_iEn ?_
  | with_reducible refine Er.x_cont ?_
  | ((with_reducible refine Er.x_isBt ?h ?_); (case h => exact rfl))
  | ((with_reducible refine Er.x_isBf ?h ?_); (case h => exact rfl))
  | ((with_reducible refine Er.x_isNBt ?h ?_); (case h => exact rfl))
  | ((with_reducible refine Er.x_isNBf ?h ?_); (case h => exact rfl))
  | with_reducible refine Er.x_isB ?_
  | with_reducible refine Er.x_isNB ?_)
local macro_rules | `(tactic| walk_at "nb") => `(tactic| exact NB.dT)
local macro_rules | `(tactic| walk_at "rd1") => `(tactic| first
  | with_reducible refine Er.x_dNotIn ?_
  | with_reducible refine Er.x_dPut ?_
  | with_reducible refine Er.x_dnewT ?_)

section
variable {P : Program} {w : World} {K : PySem.W.Frag} {mg : Str → Option Value} {base : Heap} {a : Ad} {H H1 : Hp} {Q : VK} {E : XK} {p b : Addr} {v u : V}
/-! the return of a line -/
def nx (g : Int → Int) (n : Int) (i : Nat) : Nat := (Nt.iter g i n).toNat
def sp_Lreturn : Sp := fun vs H Q _ => ∃ (c : Addr) (z : Str) (F R : Int) (o : Nat), vs = [.ref c, .int F, .int R] ∧ Wd z ∧ H c = some (.tup [.str z]) ∧ 2 ≤ F ∧ F ≤ 3 ∧ 1 ≤ R ∧ R ≤ 6000 ∧ Nt.Sys (gg z F R) (F * R) o ∧ o ≤ 1000000 ∧ ∀ H1, Ex H H1 → Q (.int (o : Nat)) H1
theorem ok_Lreturn (T : Txt K w mg a) : FnOk P w K mg base CX0 5 a.a_Lreturn a.fd_Lreturn ["_law_call", "_law_files", "_law_rows"] sp_Lreturn := by
  refine T.F_Lreturn.ok sc_Lreturn (fun vs H Q E h => ?_) (fun cdv A outer s H vs Q E hr h => ?_)
  · obtain ⟨c, z, F, R, o, rfl, _⟩ := h; rfl
  · obtain ⟨c, z, F, R, o, rfl, hz, hc, hF, hF3, hR, hR2, sy, ho, k⟩ := h
    have G_Lrounds := ok_Lrounds (P := P) (base := base) T
    have G_Lmultiple := ok_Lmultiple (P := P) (base := base) T
    have fr : F * R ≤ 3 * R := Int.mul_le_mul_of_nonneg_right hF3 (by omega)
    refine ⟨_, (pss_cons (ps_par (i := 3) (j := 4) rfl sc_Lreturn.nd rfl rfl (by decide) rfl rfl (pa_cons (pe_lst pa_nil) (pa_cons pe_dnewT pa_nil)) rfl)
      (pss_cons (ps_for PassesOwn.never rfl (pi_range1 (by rfl) T.n_range (pa_cons (pv 2) pa_nil)) (pg_name (i := 5) sc_Lreturn.nd rfl (Or.inl rfl)) (pss_one (ps_for PassesOwn.never rfl (pi_range1 (by rfl) T.n_range (pa_cons (pv 1) pa_nil)) (pg_name (i := 6) sc_Lreturn.nd rfl (Or.inl rfl)) (pss_one (ps_if (pt_cmp (pc_dnotin (Er.hu1 hr.units) (pe_tup (pa_cons (pv 5) (pa_cons (pv 6) pa_nil))) (pv 4)) (by rfl)) (pss_cons (ps_set (i := 7) sc_Lreturn.nd rfl (Or.inl rfl) (pe_call G_Lrounds (hr.mono (by decide)) (by rfl) T.m_Lrounds T.k_Lrounds T.b_Lrounds .nil pass0 (pa_cons (pe_lst (pa_cons (pv 0) pa_nil)) (pa_cons (pv 1) (pa_cons (pv 2) (pa_cons (pe_tup (pa_cons (pv 5) (pa_cons (pv 6) pa_nil))) pa_nil))))))
      (pss_cons (ps_expr (pe_bm PySem.F.plainAttrs_list PySem.F.slot_list_append PySem.F.type_list_append mt_append (pv 3) (pa_cons (pe_callB c_len (by rfl) T.n_len PySem.boot_len (pa_cons (pv 7) pa_nil)) pa_nil)))
      (pss_one (ps_for PassesOwn.never rfl (pi_list (pv 7)) (pg_name (i := 8) sc_Lreturn.nd rfl (Or.inl rfl)) (pss_one (ps_dput (Er.hu1 hr.units) (pv 4) (pv 8) pe_bl (by rfl))))))) pss_nil)))))
      (pss_one (ps_ret (pe_call G_Lmultiple (hr.mono (by decide)) (by rfl) T.m_Lmultiple T.k_Lmultiple T.b_Lmultiple .nil pass0 (pa_cons (pv 3) pa_nil)))))), ?_⟩
    walk_at "rd"
    rename_i ql G1 e1 fl g1 qs G2 e2 fs g2
    have nl : Er.NF H ql := .of fl
    have ns : Er.NF H qs := .new e1 fs
    have g1' : G2 ql = some (.lst []) := e2.kp _ _ g1 (NB.len (by decide))
    refine for_rng (m := R) (by omega) (by omega) (fun i σ H' => Ex H H' ∧ ∃ (lens ks : List Nat) (v5 v6 v7 v8 : Option V), σ = [some (.ref c), some (.int F), some (.int R), some (.ref ql), some (.ref qs), v5, v6, v7, v8] ∧ H' ql = some (.lst (nv lens)) ∧ H' qs = some (.dT (Er.seenK F ks)) ∧ Nt.RSt (gg z F R) (F * R) o lens ks ((i : Int) * F) ∧ lens.length ≤ 3 * i)
      ⟨e1.trans e2, [], [], _, _, _, _, rfl, g1', g2, ⟨(fun _ m => nomatch m), .nil, (fun _ m => nomatch m), (fun _ m => nomatch m), fun x hx => by omega⟩, Nat.le_refl _⟩ (fun i σ H3 hi h => ?_) (fun σ H3 h => ?_)
    rotate_left
    · obtain ⟨e3, lens, ks, v5, v6, v7, v8, rfl, hql, hqs, st, ll⟩ := h
      walk_at "rd"
      rw [show ((R.toNat : Nat) : Int) * F = F * R by rw [Int.toNat_of_nonneg (by omega), Int.mul_comm]] at st
      refine ⟨ql, lens, o, rfl, hql, sy.pos, ho, st.dv, ?_⟩
      rw [st.fin sy]
      exact k _ e3
    obtain ⟨e3, lens, ks, v5, v6, v7, v8, rfl, hql, hqs, st, ll⟩ := h
    walk_at "rd"
    refine for_rng (m := F) (by omega) (by omega) (fun j σ H' => Ex H H' ∧ ∃ (lens ks : List Nat) (v6 v7 v8 : Option V), σ = [some (.ref c), some (.int F), some (.int R), some (.ref ql), some (.ref qs), some (.int (i : Int)), v6, v7, v8] ∧ H' ql = some (.lst (nv lens)) ∧ H' qs = some (.dT (Er.seenK F ks)) ∧ Nt.RSt (gg z F R) (F * R) o lens ks ((i : Int) * F + (j : Int)) ∧ lens.length ≤ 3 * i + j)
      ⟨e3, lens, ks, _, _, _, rfl, hql, hqs, by simpa using st, ll⟩ (fun j σ H4 hj h => ?_) (fun σ H4 h => ?_)
    rotate_left
    · obtain ⟨e4, lens, ks, v6, v7, v8, rfl, hql, hqs, st, ll⟩ := h
      walk_at "rd"
      refine ⟨e4, lens, ks, _, _, _, _, rfl, hql, hqs, ?_, by omega⟩
      have e : (((i + 1 : Nat) : Int)) * F = (i : Int) * F + ((F.toNat : Nat) : Int) := by
        rw [Int.toNat_of_nonneg (by omega), show ((i + 1 : Nat) : Int) = (i : Int) + 1 from rfl, Int.add_mul, Int.one_mul]
      rw [e]
      exact st
    clear e3 hql hqs st ll
    obtain ⟨e4, lens, ks, v6, v7, v8, rfl, hql, hqs, st, ll⟩ := h
    have iF := Int.mul_nonneg (show 0 ≤ (i : Int) by omega) (show 0 ≤ F by omega)
    obtain ⟨n, hn⟩ : ∃ n : Nat, (n : Int) = (i : Int) * F + (j : Int) := ⟨((i : Int) * F + (j : Int)).toNat, Int.toNat_of_nonneg (by omega)⟩
    obtain ⟨d1, d2⟩ := Nt.lift_dm (F := F) (c := (j : Int)) (r := (i : Int)) (by omega) (by omega) hj
    rw [← hn] at d1 d2 st
    have nlt : (n : Int) < F * R := by
      have := Nt.num_lt (F := F) (R := R) (q := (i : Int)) (r := (j : Int)) (by omega) (by omega) hi (by omega) hj
      unfold Nt.lst at this
      omega
    have e5 : (((i : Int) * F + ((j + 1 : Nat) : Int)) : Int) = (n : Int) + 1 := by rw [hn]; omega
    walk_at "rd"
    rename_i pt G5 x5 f5 h5
    rw [← d1, ← d2] at h5
    have hqs5 := x5.kp _ _ hqs NB.dT
    refine Er.x_dni (k := Er.pk F n) hqs5 (by rw [h5]; rfl) ?_
    rw [Er.seen_val]
    walk_at "rd"
    rotate_left
    · rename_i mem
      refine ⟨e4.trans x5, lens, ks, _, _, _, rfl, x5.kp _ _ hql nv_nb, hqs5, ?_, by omega⟩
      rw [e5]
      exact ⟨st.dv, st.nd, st.lt, st.bk, fun x hx => by
        by_cases q : x = n
        · rw [q]; exact mem
        · exact st.up x (by omega)⟩
    rename_i nmem pc G6 x6 f6 h6 pn G7 x7 f7 h7
    rw [← d1, ← d2] at h7
    have c7 : G6 c = some (.tup [.str z]) := by walk_at "hk"
    refine ⟨pc, c, pn, z, F, R, n, o, rfl, hz, x7.kp _ _ h6 (NB.at0b rfl), x7.kp _ _ c7 NB.tup, h7, hF, hF3, hR, by omega, by omega, nlt, sy, ho, fun q L xs G8 x8 hq l0 hL ld xl pl => ?_⟩
    have hql8 : G8 ql = some (.lst (nv lens)) := by walk_at "hk"
    have hqs8 : G8 qs = some (.dT (Er.seenK F ks)) := by walk_at "hk"
    have e8 : Ex H G8 := by walk_at "ex"
    clear x5 f5 h5 hqs5 x6 f6 h6 x7 f7 h7 x8 c7 hql hqs
    walk_at "rd"
    refine Er.x_append hql8 (by rw [nv_len]; exact Nat.lt_of_le_of_lt (show _ ≤ 18000 + 3 by omega) (by decide)) ?_
    have qne : q ≠ ql := fun e => by
      rw [e] at hq
      rw [hql8] at hq
      have := Option.some.inj hq
      injection this with this
      have h0 : xs[0]? = some xs[0] := by rw [List.getElem?_eq_getElem (by omega)]
      obtain ⟨b, eb, _⟩ := pl 0 _ h0
      have : (nv lens)[0]? = some (.ref b) := by rw [this, h0, eb]
      unfold nv at this
      rw [List.getElem?_map, List.getElem?_map] at this
      cases hl0 : lens[0]? with
      | none => rw [hl0] at this; cases this
      | some x => rw [hl0] at this; cases this
    have e9 : Ex H (upd G8 ql (.lst (nv lens ++ [V.int (xs.length : Nat)]))) := Ex.mut e8 fl
    have hql9 : (upd G8 ql (.lst (nv lens ++ [V.int (xs.length : Nat)]))) ql = some (.lst (nv (lens ++ [L]))) := by rw [upd_same, xl, nv_app]
    have hqs9 : (upd G8 ql (.lst (nv lens ++ [V.int (xs.length : Nat)]))) qs = some (.dT (Er.seenK F ks)) := by
      rw [upd_ne (fun e => by rw [e, hql8] at hqs8; cases hqs8)]
      exact hqs8
    have hq9 : (upd G8 ql (.lst (nv lens ++ [V.int (xs.length : Nat)]))) q = some (.lst xs) := by rw [upd_ne qne]; exact hq
    have pl9 := pl.tx (Tx.set (o := .lst (nv lens ++ [V.int (xs.length : Nat)])) hql8)
    generalize upd G8 ql (.lst (nv lens ++ [V.int (xs.length : Nat)])) = G9 at e9 hql9 hqs9 hq9 pl9 ⊢
    clear hql8 hqs8 hq pl e8
    walk_at "rd"
    have itb := fun t => sy.it (show 0 ≤ (n : Int) by omega) nlt t
    refine for_lst hq9 (fun t σ H' => Ex H H' ∧ ∃ (ks' : List Nat) (v8 : Option V), σ = [some (.ref c), some (.int F), some (.int R), some (.ref ql), some (.ref qs), some (.int (i : Int)), some (.int (j : Int)), some (.ref q), v8] ∧ H' ql = some (.lst (nv (lens ++ [L]))) ∧ H' qs = some (.dT (Er.seenK F ks')) ∧ H' q = some (.lst xs) ∧ Plcs F (gg z F R) n H' xs ∧ ks'.Nodup ∧ (∀ x ∈ ks', (x : Int) < F * R) ∧ (∀ x ∈ ks, x ∈ ks') ∧ (∀ x ∈ ks', x ∈ ks ∨ ∃ i, x = nx (gg z F R) n i) ∧ (0 < t → n ∈ ks'))
      ⟨e9, ks, _, rfl, hql9, hqs9, hq9, pl9, st.nd, st.lt, fun x m => m, fun x m => .inl m, fun z => absurd z (by omega)⟩ (fun i σ H' _ h => h.2.choose_spec.choose_spec.2.2.2.1) (fun t x σ H10 hx h => ?_) (fun σ H10 h => ?_)
    · obtain ⟨e10, ks', v8, rfl, a1, a2, a3, a4, a5, a6, a7, a8, a9⟩ := h
      obtain ⟨b, rfl, hb⟩ := a4 t x hx
      obtain ⟨y0, y1⟩ := itb t
      have ey : ((nx (gg z F R) n t : Nat) : Int) = Nt.iter (gg z F R) t n := Int.toNat_of_nonneg y0
      rw [← ey] at hb y1
      have len : ks'.length ≤ 18000 := by
        have := Er.nodup_le (F * R).toNat ks' a5 fun x m => by have := a6 x m; omega
        omega
      walk_at "rd"
      refine Er.x_dpk (k := Er.pk F (nx (gg z F R) n t)) a2 (by rw [hb]; rfl) (by unfold Er.seenK; rw [List.length_map]; exact Nat.lt_of_le_of_lt len (by decide)) ?_
      rw [Er.seen_put]
      have nq : ql ≠ qs := fun e => by rw [e, a2] at a1; cases a1
      have nq2 : q ≠ qs := fun e => by rw [e, a2] at a3; cases a3
      have tx : Tx H10 (upd H10 qs (.dT (Er.seenK F (if nx (gg z F R) n t ∈ ks' then ks' else ks' ++ [nx (gg z F R) n t])))) := fun a ys h => by
        rw [upd_ne (fun e => by rw [e, a2] at h; cases h)]
        exact h
      refine ⟨Er.mutO e10 ns a2 NB.dT, _, _, rfl, by rw [upd_ne nq]; exact a1, upd_same, by rw [upd_ne nq2]; exact a3, a4.tx tx, ?_, ?_, ?_, ?_, ?_⟩
      · split
        · exact a5
        · rename_i nm
          refine List.nodup_append.mpr ⟨a5, by simp, fun u hu w hw => ?_⟩
          rw [List.mem_singleton.mp hw]
          exact fun e => nm (e ▸ hu)
      · intro x m
        split at m
        · exact a6 x m
        · rcases List.mem_append.mp m with m | m
          · exact a6 x m
          · rw [List.mem_singleton.mp m]; exact y1
      · intro x m
        split
        · exact a7 x m
        · exact List.mem_append_left _ (a7 x m)
      · intro x m
        split at m
        · exact a8 x m
        · rcases List.mem_append.mp m with m | m
          · exact a8 x m
          · exact .inr ⟨t, List.mem_singleton.mp m⟩
      · intro _
        by_cases e : t = 0
        · subst e
          have e0 : nx (gg z F R) n 0 = n := by unfold nx; show ((n : Int)).toNat = n; omega
          rw [e0]
          split
          · assumption
          · exact List.mem_append_right _ (by simp)
        · have := a9 (by omega)
          split
          · exact this
          · exact List.mem_append_left _ this
    · obtain ⟨e10, ks', v8, rfl, a1, a2, a3, a4, a5, a6, a7, a8, a9⟩ := h
      walk_at "rd"
      refine ⟨e10, lens ++ [L], ks', _, _, _, rfl, a1, a2, ?_, by rw [List.length_append]; show _ + 1 ≤ _; omega⟩
      rw [e5]
      refine ⟨fun l m => ?_, a5, a6, fun x m => ?_, fun x hx => ?_⟩
      · rcases List.mem_append.mp m with m | m
        · exact st.dv l m
        · rw [List.mem_singleton.mp m]; exact ⟨l0, ld⟩
      · rcases a8 x m with m | ⟨t, rfl⟩
        · obtain ⟨l, hl, e⟩ := st.bk x m
          exact ⟨l, List.mem_append_left _ hl, e⟩
        · refine ⟨L, List.mem_append_right _ (by simp), ?_⟩
          have ey : ((nx (gg z F R) n t : Nat) : Int) = Nt.iter (gg z F R) t n := Int.toNat_of_nonneg (itb t).1
          rw [ey, ← Nt.iter_add, Nat.add_comm, Nt.iter_add, hL]
      · by_cases q : x = n
        · rw [q]; exact a9 (by omega)
        · exact a7 x (st.up x (by omega))
end
end My

set_option Elab.async false
set_option linter.all false
set_option maxRecDepth 100000
set_option maxHeartbeats 8000000
namespace My
open PySem PySem.Spec PyProof.Rows L2 Sx
local macro_rules | `(tactic| walk_at "nb") => `(tactic| first | exact NB.tup | exact NB.ints | exact NB.len (of_decide_eq_true rfl) | exact NB.at0b rfl | exact NB.at3b rfl | exact NB.ins | exact NB.own | exact NB.frz | exact NB.refs (by assumption) | assumption)
local macro_rules | `(tactic| walk_at "ne") => `(tactic| first | assumption | exact Ne.symm (by assumption) | exact ne_of_none (by assumption) (by assumption) | exact Ne.symm (ne_of_none (by assumption) (by assumption)))
local macro_rules | `(tactic| walk_at "hk") => `(tactic| first
  | assumption
  | exact upd_same
  | (refine' (upd_ne ?hkne).trans ?hkq; (case hkne => walk_at "ne"); (case hkq => walk_at "hk"))
  | (refine' Ex.kp (by assumption) _ _ ?hkq ?hkn; (case hkq => walk_at "hk"); (case hkn => walk_at "nb")))
local macro_rules | `(tactic| walk_at "rd1") => `(tactic| first
  | ((with_reducible refine' x_var ?hx ?_); (case hx => exact rfl))
  | with_reducible refine x_c ?_
  | with_reducible refine x_op ?_
  | with_reducible refine x_un ?_
  | with_reducible refine x_I0 ?_
  | with_reducible refine x_U ?_
  | ((with_reducible refine x_I ?hc ?_); (case hc => first | exact (by decide : (0 : Int) < _) | (show (0 : Int) < _; omega) | (show CMul _ _; first | exact .inl ⟨by omega, by omega⟩ | exact .inr ⟨by omega, by omega⟩) | (show CDiv _ _; exact ⟨by omega, by omega⟩) | (show CDivW _ _; exact wide_div (b := 200) (by omega) (by assumption) (by decide) (by decide)) | (show CDivW _ _; exact wide_div (b := 31) (by omega) (by omega) (by decide) (by decide))))
  | with_reducible refine x_EqI ?_
  | with_reducible refine x_NeI ?_
  | ((with_reducible refine x_EqSt ?h ?_); (case h => decide +kernel))
  | ((with_reducible refine x_EqSf ?h ?_); (case h => decide +kernel))
  | ((with_reducible refine x_NeSt ?h ?_); (case h => decide +kernel))
  | ((with_reducible refine x_NeSf ?h ?_); (case h => decide +kernel))
  | with_reducible refine x_EqS ?_
  | with_reducible refine x_NeS ?_
  | ((with_reducible refine' x_ixL ?hq ?hi ?_); (case hq => walk_at "hk"); (case hi => first | exact rfl | assumption))
  | ((with_reducible refine' x_ixT ?hq ?hi ?_); (case hq => walk_at "hk"); (case hi => first | exact rfl | assumption))
  | with_reducible refine x_chain ?_
  | with_reducible refine x_tup ?_
  | with_reducible refine x_lst ?_
  | ((with_reducible refine x_lenNew ?hl ?_); (case hl => exact Nat.le_of_ble_eq_true rfl); intro _ _ _ _ _)
  | ((with_reducible refine x_new ?_); intro _ _ _ _ _)
  | with_reducible refine x_sl ?_
  | with_reducible refine x_noPart ?_
  | with_reducible refine x_part ?_
  | with_reducible refine x_ex_int ?_
  | with_reducible refine x_ex_bl ?_
  | with_reducible refine x_ex_2 ?_
  | with_reducible refine x_test ?_
  | with_reducible refine x_B ?_
  | with_reducible refine x_and ?_
  | with_reducible refine x_or ?_
  | with_reducible refine x_not ?_
  | with_reducible refine x_andV ?_
  | with_reducible refine x_orV ?_
  | with_reducible refine x_notV ?_
  | with_reducible refine x_ifE ?_
  | with_reducible refine x_iteT ?_
  | with_reducible refine x_iteF ?_
  | ((with_reducible refine x_iteD ?_ ?_) <;> intro _)
  | ((with_reducible refine x_iteN ?_ ?_) <;> intro _)
  | with_reducible refine x_if ?_
  | with_reducible refine x_seq ?_
  | with_reducible refine x_next ?_
  | with_reducible refine x_asg ?_
  | with_reducible refine x_gName ?_
  | ((with_reducible refine' x_gTup ?hq ?hn ?_); (case hq => walk_at "hk"); (case hn => exact rfl))
  | with_reducible refine x_gCons ?_
  | with_reducible refine x_gNil ?_
  | ((with_reducible refine' x_gConsE ?h ?_); (case h => exact rfl))
  | ((with_reducible refine x_gNilE ?h ?_); (case h => exact rfl))
  | with_reducible refine x_ret ?_
  | with_reducible refine x_drop ?_
  | with_reducible refine x_par ?_
  | ((with_reducible refine' x_aug ?hx ?_); (case hx => exact rfl))
  | with_reducible refine x_ipI ?_
  | with_reducible refine x_augS ?_
  | with_reducible refine x_gSub ?_
  | ((with_reducible refine' x_setL ?hq ?hi ?_); (case hq => walk_at "hk"); (case hi => first | exact rfl | assumption))
  | with_reducible refine x_cons ?_
  | with_reducible refine x_nil ?_
  | with_reducible refine x_CB ?_
  | with_reducible refine x_abs ?_
  | with_reducible refine x_intI ?_
  | with_reducible refine x_intB ?_
  | ((with_reducible refine' x_lenL ?hq ?_); (case hq => walk_at "hk"))
  | ((with_reducible refine' x_lenT ?hq ?_); (case hq => walk_at "hk"))
  | ((with_reducible refine x_iteTe ?h ?_); (case h => exact rfl))
  | ((with_reducible refine x_iteFe ?h ?_); (case h => exact rfl))
  | walk_at "use"
  | with_reducible refine x_callS ?_
  | ((with_reducible refine x_lc ?_))
  | ((with_reducible refine x_for ?_))
  | ((with_reducible refine x_iR1 ?_))
  | ((with_reducible refine x_iL ?_))
  | ((with_reducible refine x_iZ ?_))
  | ((with_reducible refine x_yes ?_))
  | ((with_reducible refine' x_NIDt ?hq ?_); (case hq => assumption))
  | ((with_reducible refine' x_NIDf ?hq ?_); (case hq => assumption))
  | ((with_reducible refine' x_IIDf ?hq ?_); (case hq => assumption))
  | ((with_reducible refine' x_IIDt ?hq ?_); (case hq => assumption))
  | ((with_reducible refine' x_ixDs ?hd ?hq ?_); (case hd => assumption); (case hq => assumption))
  | ((with_reducible refine x_InSt ?h ?_); (case h => decide +kernel))
  | ((with_reducible refine x_InSf ?h ?_); (case h => decide +kernel))
  | ((with_reducible refine' x_notInI ?hq ?_); (case hq => walk_at "hk"))
  | ((with_reducible refine' x_inTt ?hq ?hv ?ha ?he ?_); (case hq => walk_at "hk"); (case hv => exact rfl); (case ha => exact rfl); (case he => decide +kernel))
  | ((with_reducible refine' x_inTf ?hq ?hv ?ha ?he ?_); (case hq => walk_at "hk"); (case hv => exact rfl); (case ha => exact rfl); (case he => decide +kernel))
  | ((with_reducible refine' x_slT ?hq ?hw ?_); (case hq => walk_at "hk"); (case hw => with_unfolding_all exact of_decide_eq_true rfl))
  | ((with_reducible refine' x_slL ?hq ?_); (case hq => walk_at "hk"))
  | ((with_reducible refine' x_catT ?hq ?hr ?n1 ?n2 ?hl ?_); (case hq => walk_at "hk"); (case hr => walk_at "hk"); (case n1 => exact List.cons_ne_nil _ _); (case n2 => exact List.cons_ne_nil _ _); (case hl => exact Nat.le_of_ble_eq_true rfl))
  | ((with_reducible refine x_bm ?_))
  | ((with_reducible refine x_lstRg ?_))
  | ((with_reducible refine x_rg1 ?_))
  | ((with_reducible refine And.intro ?h ?_); (case h => exact tyL (by assumption)))
  | dsimp only)
local macro_rules | `(tactic| walk_at "use") => `(tactic| fail)
local macro_rules | `(tactic| walk_at "rd") => `(tactic| repeat' (walk_at "rd1"))
local macro_rules | `(tactic| walk_at "ex") => `(tactic| first | exact Ex.refl _ | assumption | (refine' Ex.trans ?he (by assumption); (case he => walk_at "ex")))
local macro_rules | `(tactic| walk_at "rd1") => `(tactic| first
  | ((with_reducible refine x_iteDf ?h ?_); (case h => exact rfl))
  | ((with_reducible refine x_iteDt ?h ?_); (case h => exact rfl))
  | ((with_reducible refine x_iteNf ?h ?_); (case h => exact rfl))
  | ((with_reducible refine x_iteNt ?h ?_); (case h => exact rfl))
  | ((with_reducible refine x_isiI (r := true) ?h ?_); (case h => decide +kernel))
  | ((with_reducible refine x_isiI (r := false) ?h ?_); (case h => decide +kernel))
  | ((with_reducible refine x_isiS (r := true) ?h ?_); (case h => decide +kernel))
  | ((with_reducible refine x_isiS (r := false) ?h ?_); (case h => decide +kernel))
  | ((with_reducible refine x_isiB (r := true) ?h ?_); (case h => decide +kernel))
  | ((with_reducible refine x_isiB (r := false) ?h ?_); (case h => decide +kernel))
  | ((with_reducible refine' x_isiT (r := true) ?hp ?h ?_); (case hp => walk_at "hk"); (case h => decide +kernel))
  | ((with_reducible refine' x_isiT (r := false) ?hp ?h ?_); (case hp => walk_at "hk"); (case h => decide +kernel))
  | ((with_reducible refine' x_isiL (r := true) ?hp ?h ?_); (case hp => walk_at "hk"); (case h => decide +kernel))
  | ((with_reducible refine' x_isiL (r := false) ?hp ?h ?_); (case hp => walk_at "hk"); (case h => decide +kernel))
  | ((with_reducible refine' x_isi2L ?hp ?hl ?_); (case hp => walk_at "hk"); (case hl => walk_at "hk"))
  | ((with_reducible refine' x_isi2T ?hp ?hl ?_); (case hp => walk_at "hk"); (case hl => walk_at "hk"))
  | ((with_reducible refine' x_tupOfL ?hq ?_); (case hq => walk_at "hk"))
  | ((with_reducible refine' x_tupOfT ?hq ?_); (case hq => walk_at "hk"))
  | ((with_reducible refine x_lenS ?h ?_); (case h => exact Nat.le_of_ble_eq_true rfl))
  | ((with_reducible refine' x_all ?hq ?_); (case hq => walk_at "hk"))
  | with_reducible refine x_lenSet ?_)
local macro_rules | `(tactic| walk_at "nb") => `(tactic| first | exact NB.xd | exact NB.dK)
local macro_rules | `(tactic| walk_at "rd1") => `(tactic| first
  | with_reducible refine Er.x_par3 ?_
  | with_reducible refine Er.x_ex_3 ?_
  | with_reducible refine Er.x_revL0 ?_
  | ((with_reducible refine' Er.x_revL ?hq ?_); (case hq => walk_at "hk"))
  | with_reducible refine Er.x_dget2 ?_
  | with_reducible refine x_dict0 ?_
  | ((with_reducible refine x_pow ?hc ?_); (case hc => exact ⟨by decide, by decide, by decide⟩))
  | ((with_reducible refine And.intro ?h ?_); (case h => exact tyL (by walk_at "hk")))
  | ((with_reducible refine' Er.x_dis ?hq ?_); (case hq => walk_at "hk"))
  | ((with_reducible refine' Er.x_dgo ?hq ?he ?_); (case hq => walk_at "hk"); (case he => exact rfl)))
local macro_rules | `(tactic| walk_at "rd1") => `(tactic| first
  | with_reducible refine Er.x_callSS ?_
  | ((with_reducible refine Er.x_mulS2 ?h ?h0 ?h1 ?_); (case h => decide); (case h0 => decide); (case h1 => decide)))
local macro_rules | `(tactic| walk_at "rd1") => `(tactic| first
  | with_reducible refine Er.x_iR2 ?_
  | with_reducible refine Er.x_iEn ?_
  | with_reducible refine Er.x_cont ?_
  | ((with_reducible refine Er.x_isBt ?h ?_); (case h => exact rfl))
  | ((with_reducible refine Er.x_isBf ?h ?_); (case h => exact rfl))
  | ((with_reducible refine Er.x_isNBt ?h ?_); (case h => exact rfl))
  | ((with_reducible refine Er.x_isNBf ?h ?_); (case h => exact rfl))
  | with_reducible refine Er.x_isB ?_
  | with_reducible refine Er.x_isNB ?_)
local macro_rules | `(tactic| walk_at "nb") => `(tactic| exact NB.dT)
local macro_rules | `(tactic| walk_at "rd1") => `(tactic| first
  | with_reducible refine Er.x_dNotIn ?_
  | with_reducible refine Er.x_dPut ?_
  | with_reducible refine Er.x_dnewT ?_)

local macro_rules | `(tactic| walk_at "bg") => `(tactic| first | assumption | exact Ex.bag (by assumption) (by walk_at "bg"))
local macro_rules | `(tactic| walk_at "nb") => `(tactic| exact nv_nb)
section
variable {P : Program} {w : World} {K : PySem.W.Frag} {mg : Str → Option Value} {base : Heap} {a : Ad} {H : Hp} {Q : VK} {E : XK} {p b : Addr}
local macro_rules | `(tactic| walk_at "use") => `(tactic| ((with_reducible refine' u_Ltake ?hb ?h0 ?h1 ?_); (case hb => walk_at "bg"); (case h0 => omega); (case h1 => omega); intro _ _ _ _ _))
theorem dn_nv (h : H p = some (.lst (nv ps))) : DN H (.list (ps.map fun n : Nat => PyData.int n)) (.ref p) := by
  have : ∀ ps : List Nat, DNs H (ps.map fun n : Nat => PyData.int n) (nv ps) := by
    intro ps
    induction ps with
    | nil => exact Er.dnNil
    | cons q r ih => exact Er.dnCons Er.dnInt ih
  exact Er.dnLst h nv_nb (this ps)
theorem sml_ints {ds : List PyData} (h : ∀ d ∈ ds, ∃ i : Int, d = .int i ∧ i.natAbs < 10 ^ 59) (n : Nat) (hn : ds.length ≤ n) : Sml n 1 (.list ds) := by
  have := Sml.lst (b := 0) (e := 0) (n := n) (ds := ds) (fun d m => by obtain ⟨i, rfl, hi⟩ := h d m; exact Sml.int hi) hn
  exact this.up (by omega) (by omega)
theorem pl_small {o : Nat} {ps : List Nat} (h0 : 0 < o) (ho : o ≤ 20000) (pl : Nt.PL o ps) : (∀ p ∈ ps, p ≤ 1000000) ∧ ps.length ≤ 20001 :=
  ⟨fun p m => by have := (pl.le h0 p m).2; omega, by have := pl.len h0; omega⟩
theorem al_pap {o : Nat} {ps : List Nat} {u q u2 q2 : Addr} (h1 : H u = some (.tup [.int (o : Nat), .ref q])) (h2 : H u2 = some (.tup [.int (o : Nat), .ref q2])) (h3 : H q = some (.lst (nv ps))) (h4 : H q2 = some (.lst (nv ps))) (ho : o ≤ 20000) (hp : ∀ p ∈ ps, p ≤ 1000000) (hl : ps.length ≤ 20001) : Er.Alike K H (.ref u) (.ref u2) := by
  have ho' : (o : Int).natAbs < 10 ^ 59 := Nat.lt_of_le_of_lt (show _ ≤ 20000 by omega) (by decide +kernel)
  have s3 : Sml 40004 2 (.tuple [.int (o : Int), .list (ps.map fun n : Nat => PyData.int n)]) := by
    have s1 : Sml 20001 1 (.list (ps.map fun n : Nat => PyData.int n)) := sml_ints (fun d m => by
      obtain ⟨q, hq, rfl⟩ := List.mem_map.mp m
      have := hp q hq
      exact ⟨_, rfl, Nat.lt_of_le_of_lt (show _ ≤ 1000000 by omega) (by decide +kernel)⟩) 20001 (by rw [List.length_map]; exact hl)
    exact (Sml.tup (b := 20001) (e := 1) (n := 2) (Er.All.cons ((Sml.int ho').up (by decide) (by decide)) (Er.All.cons s1 Er.All.nil)) (Nat.le_refl _)).up (by decide) (by decide)
  exact Er.Alike.of (d := .tuple [.int (o : Int), .list (ps.map fun n : Nat => PyData.int n)]) (Er.dnTup h1 (Er.dnCons Er.dnInt (Er.dnCons (dn_nv h3) Er.dnNil))) (Er.dnTup h2 (Er.dnCons Er.dnInt (Er.dnCons (dn_nv h4) Er.dnNil))) s3 (by decide) (by decide)
def sp_law (K : PySem.W.Frag) : Sp := fun vs H Q _ => ∃ (a : Addr) (ns : List Int), vs = [.ref a] ∧ SqL K H a (ns.map V.int) ∧ ns.length ≤ 63 ∧ ∀ H', Q (.bl true) H'
theorem law_start {ns : List Int} {s : Addr} (hl : ns.length ≤ 63) (hS : SqL K H s (ns.map V.int)) : sp_law K [.ref s] H (fun v _ => v = .bl true) E := ⟨s, ns, rfl, hS, hl, fun _ => rfl⟩
theorem ok_law (T : Txt K w mg a) : Ow.FnG P w K mg base CX0 6 a.a_law a.fd_law ["_law_script"] (sp_law K) := by
  refine Ow.fnG_of T.F_law sc_law (fun vs H Q E h => ?_) (fun cdv A outer s H vs Q E hG hr h => ?_)
  · obtain ⟨s, ns, rfl, _⟩ := h; rfl
  · obtain ⟨s, ns, rfl, hs, hl, k⟩ := h
    have G_Ltake := ok_Ltake (P := P) (base := base) T
    have G_Lone := ok_Lone (P := P) (base := base) T
    have G_Lbag := ok_Lbag (P := P) (base := base) T
    have G_Lprimes := ok_Lprimes (P := P) (base := base) T
    have G_Lreturn := ok_Lreturn (P := P) (base := base) T
    have G_halve_return := ok_halve_return (P := P) (base := base) T
    have G_others_return := ok_others_return (P := P) (base := base) T
    have G_Lalike := ok_Lalike (P := P) (base := base) T
    refine ⟨_, (pss_cons (ps_set (i := 1) sc_law.nd rfl (Or.inl rfl) (pe_call G_Lbag (hr.mono (by decide)) (by rfl) T.m_Lbag T.k_Lbag T.b_Lbag .nil pass0 (pa_cons (pv 0) pa_nil)))
      (pss_cons (ps_for PassesOwn.never rfl (pi_range1 (by rfl) T.n_range (pa_cons pe_int pa_nil)) (pg_name (i := 2) sc_law.nd rfl (Or.inl rfl)) (pss_cons (ps_par (i := 3) (j := 4) rfl sc_law.nd rfl rfl (by decide) rfl rfl (pa_cons (pe_op op_add pe_int (pe_call G_Ltake (hr.mono (by decide)) (by rfl) T.m_Ltake T.k_Ltake T.b_Ltake .nil pass0 (pa_cons (pv 1) (pa_cons pe_int pa_nil)))) (pa_cons (pe_op op_add pe_int (pe_call G_Ltake (hr.mono (by decide)) (by rfl) T.m_Ltake T.k_Ltake T.b_Ltake .nil pass0 (pa_cons (pv 1) (pa_cons (pe_call G_Lone (hr.mono (by decide)) (by rfl) T.m_Lone T.k_Lone T.b_Lone .nil pass0 (pa_cons (pv 1) (pa_cons (pe_lst (pa_cons pe_int (pa_cons pe_int (pa_cons pe_int (pa_cons pe_int pa_nil))))) pa_nil))) pa_nil)))) pa_nil)) rfl)
      (pss_cons (ps_if (PW.pt (pw_and (pt_cmpR op_eq (pv 2) pe_int (nomark _)) (pw_and1 (pt_cmpR op_eq (pe_call G_Ltake (hr.mono (by decide)) (by rfl) T.m_Ltake T.k_Ltake T.b_Ltake .nil pass0 (pa_cons (pv 1) (pa_cons pe_int pa_nil))) pe_int (nomark _))))) (pss_one (ps_set (i := 4) sc_law.nd rfl (Or.inl rfl) (pe_op op_sub pe_int (pe_call G_Ltake (hr.mono (by decide)) (by rfl) T.m_Ltake T.k_Ltake T.b_Ltake .nil pass0 (pa_cons (pv 1) (pa_cons pe_int pa_nil)))))) pss_nil)
      (pss_cons (ps_set (i := 5) sc_law.nd rfl (Or.inl rfl) (pe_call G_Lreturn (hr.mono (by decide)) (by rfl) T.m_Lreturn T.k_Lreturn T.b_Lreturn .nil pass0 (pa_cons (pe_call G_Lone (hr.mono (by decide)) (by rfl) T.m_Lone T.k_Lone T.b_Lone .nil pass0 (pa_cons (pv 1) (pa_cons (pe_lst (pa_cons (pe_tup (pa_cons pe_str pa_nil)) (pa_cons (pe_tup (pa_cons pe_str pa_nil)) pa_nil))) pa_nil))) (pa_cons (pv 3) (pa_cons (pv 4) pa_nil)))))
      (pss_cons (ps_for PassesOwn.never rfl (pi_range1 (by rfl) T.n_range (pa_cons pe_int pa_nil)) (pg_name (i := 6) sc_law.nd rfl (Or.inl rfl)) (pss_cons (ps_set (i := 7) sc_law.nd rfl (Or.inl rfl) (pe_call G_halve_return (hr.mono (by decide)) (by rfl) T.m_halve_return T.k_halve_return T.b_halve_return .nil pass0 (pa_cons (pv 3) (pa_cons (pv 4) pa_nil))))
      (pss_cons (ps_if (pt_not (pt_val (Ow.pe_callG hG G_Lalike (hr.mono (by decide)) (by rfl) T.m_Lalike T.k_Lalike T.b_Lalike .nil pass0 (pa_cons (pv 7) (pa_cons (pe_tup (pa_cons (pv 5) (pa_cons (pe_call G_Lprimes (hr.mono (by decide)) (by rfl) T.m_Lprimes T.k_Lprimes T.b_Lprimes .nil pass0 (pa_cons (pv 5) pa_nil)) pa_nil))) pa_nil))))) (pss_one (ps_ret pe_bl)) pss_nil)
      (pss_one (ps_expr (pe_bm PySem.F.plainAttrs_list PySem.F.slot_list_append PySem.F.type_list_append mt_append (pe_ix ix_tup (pv 7) pe_int (fun _ _ => rfl)) (pa_cons pe_int pa_nil)))))))
      (pss_cons (ps_set (i := 5) sc_law.nd rfl (Or.inl rfl) (pe_call G_Lreturn (hr.mono (by decide)) (by rfl) T.m_Lreturn T.k_Lreturn T.b_Lreturn .nil pass0 (pa_cons (pe_call G_Lone (hr.mono (by decide)) (by rfl) T.m_Lone T.k_Lone T.b_Lone .nil pass0 (pa_cons (pv 1) (pa_cons (pe_lst (pa_cons (pe_tup (pa_cons pe_str pa_nil)) (pa_cons (pe_tup (pa_cons pe_str pa_nil)) pa_nil))) pa_nil))) (pa_cons (pv 3) (pa_cons (pv 4) pa_nil)))))
      (pss_one (ps_for PassesOwn.never rfl (pi_range1 (by rfl) T.n_range (pa_cons pe_int pa_nil)) (pg_name (i := 6) sc_law.nd rfl (Or.inl rfl)) (pss_cons (ps_set (i := 7) sc_law.nd rfl (Or.inl rfl) (pe_call G_others_return (hr.mono (by decide)) (by rfl) T.m_others_return T.k_others_return T.b_others_return .nil pass0 (pa_cons (pv 4) pa_nil)))
      (pss_cons (ps_if (pt_not (pt_val (Ow.pe_callG hG G_Lalike (hr.mono (by decide)) (by rfl) T.m_Lalike T.k_Lalike T.b_Lalike .nil pass0 (pa_cons (pv 7) (pa_cons (pe_tup (pa_cons (pv 5) (pa_cons (pe_call G_Lprimes (hr.mono (by decide)) (by rfl) T.m_Lprimes T.k_Lprimes T.b_Lprimes .nil pass0 (pa_cons (pv 5) pa_nil)) pa_nil))) pa_nil))))) (pss_one (ps_ret pe_bl)) pss_nil)
      (pss_one (ps_expr (pe_bm PySem.F.plainAttrs_list PySem.F.slot_list_append PySem.F.type_list_append mt_append (pe_ix ix_tup (pv 7) pe_int (fun _ _ => rfl)) (pa_cons pe_int pa_nil))))))))))))))
      (pss_one (ps_ret pe_bl)))), ?_⟩
    walk_at "rd"
    refine u_Lbag hs hl fun b H1 e1 hb => ?_
    walk_at "rd"
    refine for_rng (m := 4) (by decide) (by decide) (fun i σ H' => ∃ v2 v3 v4 v5 v6 v7 : Option V, σ = [some (.ref s), some (.ref b), v2, v3, v4, v5, v6, v7] ∧ Bag b H') ⟨_, _, _, _, _, _, rfl, hb⟩ (fun i σ H2 hi h => ?_) (fun σ H2 h => ?_)
    rotate_left
    · walk_at "rd"
      exact k _
    · obtain ⟨v2, v3, v4, v5, v6, v7, rfl, hb2⟩ := h
      clear e1 hb
      walk_at "rd"
      rename_i t1 K1 a1 l1 u1 p5 K5 a5 f5 h5
      refine u_Lone (by walk_at "bg") h5 (NB.at3b rfl) (Nat.le_of_ble_eq_true rfl) (by show (4 : Nat) < _; decide) fun m0 K6 a6 hm => ?_
      obtain ⟨u, rfl, u1', u2⟩ : ∃ u : Int, m0 = .int u ∧ 0 < u ∧ u ≤ 400 := by
        simp only [List.mem_cons, List.not_mem_nil, or_false] at hm
        rcases hm with e | e | e | e
        all_goals exact ⟨_, e, by omega, by omega⟩
      have hb6 : Bag b K6 := by walk_at "bg"
      clear hm h5 f5 a1 a5 a6 hb2
      obtain ⟨F, hF⟩ : ∃ F : Int, F = 2 + t1 := ⟨_, rfl⟩
      have F2 : 2 ≤ F := by omega
      have F3 : F ≤ 3 := by omega
      rw [← hF]
      clear hF l1 u1
      walk_at "rd"
      · rename_i d0 L0 y0 y1 y2 y3 d1 L1 y4 y5 y6 y7 d2 L2 y8 y9 y10 pa Ga xa fa ha pb Gb xb fb hb' pc Gc xc fc hc'
        obtain ⟨R, hR⟩ : ∃ R : Int, R = 6000 - d2 := ⟨_, rfl⟩
        have R1 : 1 ≤ R := by omega
        have R2 : R ≤ 6000 := by omega
        rw [← hR]
        clear hR
        have lp := Nt.lst_pos F2 R1
        have fr : F * R ≤ 3 * R := Int.mul_le_mul_of_nonneg_right F3 (by omega)
        obtain ⟨mh, hmh⟩ : ∃ m : Nat, Nt.lst F R = m := ⟨(Nt.lst F R).toNat, by omega⟩
        have mp := Nt.Md_pos (rows := R) (by omega)
        obtain ⟨mo, hmo⟩ : ∃ m : Nat, Nt.Md R = m := ⟨(Nt.Md R).toNat, by omega⟩
        have mhl : mh ≤ 18000 := by unfold Nt.lst at hmh; omega
        have mol : mo ≤ 6000 := by unfold Nt.Md at hmo; omega
        have ha' : Gc pa = some (.tup [.str "halve"]) := xc.kp _ _ (xb.kp _ _ ha NB.tup) NB.tup
        have hb'' : Gc pb = some (.tup [.str "pair"]) := xc.kp _ _ hb' NB.tup
        refine u_Lone (by walk_at "bg") hc' (NB.at0b rfl) (Nat.le_of_ble_eq_true rfl) (by show (2 : Nat) < _; decide) fun w0 Gd xd hv => ?_
        obtain ⟨c, z, rfl, hz, hc, gz⟩ : ∃ (c : Addr) (z : Str), w0 = .ref c ∧ Wd z ∧ Gd c = some (.tup [.str z]) ∧ (gg z F R = Nt.hl F R ∨ gg z F R = Nt.pr F R) := by
          simp only [List.mem_cons, List.not_mem_nil, or_false] at hv
          rcases hv with e | e
          · exact ⟨pa, "halve", e, .inl rfl, xd.kp _ _ ha' NB.tup, .inl rfl⟩
          · exact ⟨pb, "pair", e, .inr (.inl rfl), xd.kp _ _ hb'' NB.tup, .inr rfl⟩
        have hbd : Bag b Gd := by walk_at "bg"
        clear hv ha hb' hc' ha' hb'' xa xb xc xd fa fb fc
        obtain ⟨o, od, ol⟩ := Nt.Ord.ex (b := F) (m := mh) (by omega) (Nt.gcdF hmh (by omega) (by omega))
        have sy : Nt.Sys (gg z F R) (F * R) o := by
          rcases gz with e | e
          · rw [e]; exact Nt.sys_hl F2 R1 hmh od
          · rw [e]; exact Nt.sys_pr F2 R1 hmh od
        walk_at "rd"
        refine ⟨c, z, F, R, o, rfl, hz, hc, F2, F3, R1, R2, sy, by omega, fun K8 xe => ?_⟩
        have hbe : Bag b K8 := xe.bag hbd
        clear hc hbd xe sy gz hz
        walk_at "rd"
        refine for_rng (m := 2) (by decide) (by decide) (fun i1 σ H' => ∃ v6 v7 : Option V, σ = [some (.ref s), some (.ref b), some (.int (i : Int)), some (.int F), some (.int R), some (.int (o : Int)), v6, v7] ∧ Ex K8 H') ⟨_, _, rfl, Ex.refl _⟩ (fun i1 σ H3 hi1 h => ?_) (fun σ H3 h => ?_)
        · obtain ⟨v6, v7, rfl, e3⟩ := h
          walk_at "rd"
          refine ⟨F, R, mh, rfl, F2, F3, R1, hmh, by omega, fun p9 q2 o2 ps2 K9 a9 od2 ol2 pl2 nf h9 h10 => ?_⟩
          obtain rfl := Nt.Ord.uniq od2 od
          walk_at "rd"
          refine u_Lprimes od2.pos (by omega) fun q3 ps3 K11 a11 f11 pl3 h11 => ?_
          obtain rfl := Nt.PL.uniq pl3 pl2
          obtain ⟨b1, b2⟩ := pl_small od2.pos (by omega) pl2
          walk_at "rd"
          rename_i p12 K12 a12 f12 h12
          have e12 : Ex K9 K12 := a11.trans a12
          refine u_Lalike (al_pap (e12.kp _ _ h9 NB.tup) h12 (e12.kp _ _ h10 nv_nb) (a12.kp _ _ h11 nv_nb) (by omega) b1 b2) fun K14 a14 => ?_
          have e14 : Ex K9 K14 := e12.trans a14
          have h9' := e14.kp _ _ h9 NB.tup
          have h10' := e14.kp _ _ h10 nv_nb
          have z14 : Ex H3 K14 := a9.trans e14
          clear h9 h10 h11 h12 a11 a12 a14 e12 e14 f11 f12 a9
          walk_at "rd"
          refine Er.x_append h10' (by rw [nv_len]; exact Nat.lt_of_le_of_lt (show _ ≤ 20001 by omega) (by decide)) ?_
          have z15 := Er.mutN (o := .lst (nv ps3 ++ [V.int 0])) z14 nf h10' nv_nb
          walk_at "rd"
          exact ⟨_, _, rfl, e3.trans z15⟩
        · obtain ⟨v6, v7, rfl, e3⟩ := h
          have hb3 : Bag b H3 := e3.bag hbe
          clear e3 hbe od ol
          walk_at "rd"
          rename_i pa Ga xa fa ha pb Gb xb fb hb' pc Gc xc fc hc'
          have ha' : Gc pa = some (.tup [.str "others"]) := xc.kp _ _ (xb.kp _ _ ha NB.tup) NB.tup
          have hb'' : Gc pb = some (.tup [.str "fill"]) := xc.kp _ _ hb' NB.tup
          refine u_Lone (by walk_at "bg") hc' (NB.at0b rfl) (Nat.le_of_ble_eq_true rfl) (by show (2 : Nat) < _; decide) fun w0 Gd xd hv => ?_
          obtain ⟨c, z, rfl, hz, hc, gz⟩ : ∃ (c : Addr) (z : Str), w0 = .ref c ∧ Wd z ∧ Gd c = some (.tup [.str z]) ∧ (gg z F R = Nt.lft F (Nt.oth R) ∨ gg z F R = Nt.lft F (Nt.fil R)) := by
            simp only [List.mem_cons, List.not_mem_nil, or_false] at hv
            rcases hv with e | e
            · exact ⟨pa, "others", e, .inr (.inr (.inl rfl)), xd.kp _ _ ha' NB.tup, .inl rfl⟩
            · exact ⟨pb, "fill", e, .inr (.inr (.inr rfl)), xd.kp _ _ hb'' NB.tup, .inr rfl⟩
          have hbd : Bag b Gd := by walk_at "bg"
          clear hv ha hb' hc' ha' hb'' xa xb xc xd fa fb fc
          obtain ⟨oo, odd, ol⟩ := Nt.Ord.ex (b := 2) (m := mo) (by omega) (Nt.gcd2 R1 hmo)
          have sy : Nt.Sys (gg z F R) (F * R) oo := by
            rcases gz with e | e
            · rw [e]; exact (Nt.sys_oth R1 hmo odd).lift (by omega)
            · rw [e]; exact (Nt.sys_fil R1 hmo odd).lift (by omega)
          walk_at "rd"
          refine ⟨c, z, F, R, oo, rfl, hz, hc, F2, F3, R1, R2, sy, by omega, fun K18 xe => ?_⟩
          have hbe : Bag b K18 := xe.bag hbd
          clear hc hbd xe sy gz hz
          walk_at "rd"
          refine for_rng (m := 2) (by decide) (by decide) (fun i1 σ H' => ∃ v6 v7 : Option V, σ = [some (.ref s), some (.ref b), some (.int (i : Int)), some (.int F), some (.int R), some (.int (oo : Int)), v6, v7] ∧ Ex K18 H') ⟨_, _, rfl, Ex.refl _⟩ (fun i1 σ H3 hi1 h => ?_) (fun σ H3 h => ?_)
          · obtain ⟨v6, v7, rfl, e3⟩ := h
            walk_at "rd"
            refine ⟨R, mo, rfl, by omega, hmo, by omega, fun p9 q2 o2 ps2 K9 a9 od2 ol2 pl2 nf h9 h10 => ?_⟩
            obtain rfl := Nt.Ord.uniq od2 odd
            walk_at "rd"
            refine u_Lprimes od2.pos (by omega) fun q3 ps3 K11 a11 f11 pl3 h11 => ?_
            obtain rfl := Nt.PL.uniq pl3 pl2
            obtain ⟨b1, b2⟩ := pl_small od2.pos (by omega) pl2
            walk_at "rd"
            rename_i p12 K12 a12 f12 h12
            have e12 : Ex K9 K12 := a11.trans a12
            refine u_Lalike (al_pap (e12.kp _ _ h9 NB.tup) h12 (e12.kp _ _ h10 nv_nb) (a12.kp _ _ h11 nv_nb) (by omega) b1 b2) fun K14 a14 => ?_
            have e14 : Ex K9 K14 := e12.trans a14
            have h9' := e14.kp _ _ h9 NB.tup
            have h10' := e14.kp _ _ h10 nv_nb
            have z14 : Ex H3 K14 := a9.trans e14
            clear h9 h10 h11 h12 a11 a12 a14 e12 e14 f11 f12 a9
            walk_at "rd"
            refine Er.x_append h10' (by rw [nv_len]; exact Nat.lt_of_le_of_lt (show _ ≤ 20001 by omega) (by decide)) ?_
            have z15 := Er.mutN (o := .lst (nv ps3 ++ [V.int 0])) z14 nf h10' nv_nb
            walk_at "rd"
            exact ⟨_, _, rfl, e3.trans z15⟩
          · obtain ⟨v6, v7, rfl, e3⟩ := h
            walk_at "rd"
            exact ⟨_, _, _, _, _, _, rfl, e3.bag hbe⟩
      · rename_i d0 L0 y0 y1 y2 y3 d1 L1 y4 y5 y6 y7 pa Ga xa fa ha pb Gb xb fb hb' pc Gc xc fc hc'
        obtain ⟨R, hR⟩ : ∃ R : Int, R = 1 + d0 := ⟨_, rfl⟩
        have R1 : 1 ≤ R := by omega
        have R2 : R ≤ 6000 := by omega
        rw [← hR]
        clear hR
        have lp := Nt.lst_pos F2 R1
        have fr : F * R ≤ 3 * R := Int.mul_le_mul_of_nonneg_right F3 (by omega)
        obtain ⟨mh, hmh⟩ : ∃ m : Nat, Nt.lst F R = m := ⟨(Nt.lst F R).toNat, by omega⟩
        have mp := Nt.Md_pos (rows := R) (by omega)
        obtain ⟨mo, hmo⟩ : ∃ m : Nat, Nt.Md R = m := ⟨(Nt.Md R).toNat, by omega⟩
        have mhl : mh ≤ 18000 := by unfold Nt.lst at hmh; omega
        have mol : mo ≤ 6000 := by unfold Nt.Md at hmo; omega
        have ha' : Gc pa = some (.tup [.str "halve"]) := xc.kp _ _ (xb.kp _ _ ha NB.tup) NB.tup
        have hb'' : Gc pb = some (.tup [.str "pair"]) := xc.kp _ _ hb' NB.tup
        refine u_Lone (by walk_at "bg") hc' (NB.at0b rfl) (Nat.le_of_ble_eq_true rfl) (by show (2 : Nat) < _; decide) fun w0 Gd xd hv => ?_
        obtain ⟨c, z, rfl, hz, hc, gz⟩ : ∃ (c : Addr) (z : Str), w0 = .ref c ∧ Wd z ∧ Gd c = some (.tup [.str z]) ∧ (gg z F R = Nt.hl F R ∨ gg z F R = Nt.pr F R) := by
          simp only [List.mem_cons, List.not_mem_nil, or_false] at hv
          rcases hv with e | e
          · exact ⟨pa, "halve", e, .inl rfl, xd.kp _ _ ha' NB.tup, .inl rfl⟩
          · exact ⟨pb, "pair", e, .inr (.inl rfl), xd.kp _ _ hb'' NB.tup, .inr rfl⟩
        have hbd : Bag b Gd := by walk_at "bg"
        clear hv ha hb' hc' ha' hb'' xa xb xc xd fa fb fc
        obtain ⟨o, od, ol⟩ := Nt.Ord.ex (b := F) (m := mh) (by omega) (Nt.gcdF hmh (by omega) (by omega))
        have sy : Nt.Sys (gg z F R) (F * R) o := by
          rcases gz with e | e
          · rw [e]; exact Nt.sys_hl F2 R1 hmh od
          · rw [e]; exact Nt.sys_pr F2 R1 hmh od
        walk_at "rd"
        refine ⟨c, z, F, R, o, rfl, hz, hc, F2, F3, R1, R2, sy, by omega, fun K8 xe => ?_⟩
        have hbe : Bag b K8 := xe.bag hbd
        clear hc hbd xe sy gz hz
        walk_at "rd"
        refine for_rng (m := 2) (by decide) (by decide) (fun i1 σ H' => ∃ v6 v7 : Option V, σ = [some (.ref s), some (.ref b), some (.int (i : Int)), some (.int F), some (.int R), some (.int (o : Int)), v6, v7] ∧ Ex K8 H') ⟨_, _, rfl, Ex.refl _⟩ (fun i1 σ H3 hi1 h => ?_) (fun σ H3 h => ?_)
        · obtain ⟨v6, v7, rfl, e3⟩ := h
          walk_at "rd"
          refine ⟨F, R, mh, rfl, F2, F3, R1, hmh, by omega, fun p9 q2 o2 ps2 K9 a9 od2 ol2 pl2 nf h9 h10 => ?_⟩
          obtain rfl := Nt.Ord.uniq od2 od
          walk_at "rd"
          refine u_Lprimes od2.pos (by omega) fun q3 ps3 K11 a11 f11 pl3 h11 => ?_
          obtain rfl := Nt.PL.uniq pl3 pl2
          obtain ⟨b1, b2⟩ := pl_small od2.pos (by omega) pl2
          walk_at "rd"
          rename_i p12 K12 a12 f12 h12
          have e12 : Ex K9 K12 := a11.trans a12
          refine u_Lalike (al_pap (e12.kp _ _ h9 NB.tup) h12 (e12.kp _ _ h10 nv_nb) (a12.kp _ _ h11 nv_nb) (by omega) b1 b2) fun K14 a14 => ?_
          have e14 : Ex K9 K14 := e12.trans a14
          have h9' := e14.kp _ _ h9 NB.tup
          have h10' := e14.kp _ _ h10 nv_nb
          have z14 : Ex H3 K14 := a9.trans e14
          clear h9 h10 h11 h12 a11 a12 a14 e12 e14 f11 f12 a9
          walk_at "rd"
          refine Er.x_append h10' (by rw [nv_len]; exact Nat.lt_of_le_of_lt (show _ ≤ 20001 by omega) (by decide)) ?_
          have z15 := Er.mutN (o := .lst (nv ps3 ++ [V.int 0])) z14 nf h10' nv_nb
          walk_at "rd"
          exact ⟨_, _, rfl, e3.trans z15⟩
        · obtain ⟨v6, v7, rfl, e3⟩ := h
          have hb3 : Bag b H3 := e3.bag hbe
          clear e3 hbe od ol
          walk_at "rd"
          rename_i pa Ga xa fa ha pb Gb xb fb hb' pc Gc xc fc hc'
          have ha' : Gc pa = some (.tup [.str "others"]) := xc.kp _ _ (xb.kp _ _ ha NB.tup) NB.tup
          have hb'' : Gc pb = some (.tup [.str "fill"]) := xc.kp _ _ hb' NB.tup
          refine u_Lone (by walk_at "bg") hc' (NB.at0b rfl) (Nat.le_of_ble_eq_true rfl) (by show (2 : Nat) < _; decide) fun w0 Gd xd hv => ?_
          obtain ⟨c, z, rfl, hz, hc, gz⟩ : ∃ (c : Addr) (z : Str), w0 = .ref c ∧ Wd z ∧ Gd c = some (.tup [.str z]) ∧ (gg z F R = Nt.lft F (Nt.oth R) ∨ gg z F R = Nt.lft F (Nt.fil R)) := by
            simp only [List.mem_cons, List.not_mem_nil, or_false] at hv
            rcases hv with e | e
            · exact ⟨pa, "others", e, .inr (.inr (.inl rfl)), xd.kp _ _ ha' NB.tup, .inl rfl⟩
            · exact ⟨pb, "fill", e, .inr (.inr (.inr rfl)), xd.kp _ _ hb'' NB.tup, .inr rfl⟩
          have hbd : Bag b Gd := by walk_at "bg"
          clear hv ha hb' hc' ha' hb'' xa xb xc xd fa fb fc
          obtain ⟨oo, odd, ol⟩ := Nt.Ord.ex (b := 2) (m := mo) (by omega) (Nt.gcd2 R1 hmo)
          have sy : Nt.Sys (gg z F R) (F * R) oo := by
            rcases gz with e | e
            · rw [e]; exact (Nt.sys_oth R1 hmo odd).lift (by omega)
            · rw [e]; exact (Nt.sys_fil R1 hmo odd).lift (by omega)
          walk_at "rd"
          refine ⟨c, z, F, R, oo, rfl, hz, hc, F2, F3, R1, R2, sy, by omega, fun K18 xe => ?_⟩
          have hbe : Bag b K18 := xe.bag hbd
          clear hc hbd xe sy gz hz
          walk_at "rd"
          refine for_rng (m := 2) (by decide) (by decide) (fun i1 σ H' => ∃ v6 v7 : Option V, σ = [some (.ref s), some (.ref b), some (.int (i : Int)), some (.int F), some (.int R), some (.int (oo : Int)), v6, v7] ∧ Ex K18 H') ⟨_, _, rfl, Ex.refl _⟩ (fun i1 σ H3 hi1 h => ?_) (fun σ H3 h => ?_)
          · obtain ⟨v6, v7, rfl, e3⟩ := h
            walk_at "rd"
            refine ⟨R, mo, rfl, by omega, hmo, by omega, fun p9 q2 o2 ps2 K9 a9 od2 ol2 pl2 nf h9 h10 => ?_⟩
            obtain rfl := Nt.Ord.uniq od2 odd
            walk_at "rd"
            refine u_Lprimes od2.pos (by omega) fun q3 ps3 K11 a11 f11 pl3 h11 => ?_
            obtain rfl := Nt.PL.uniq pl3 pl2
            obtain ⟨b1, b2⟩ := pl_small od2.pos (by omega) pl2
            walk_at "rd"
            rename_i p12 K12 a12 f12 h12
            have e12 : Ex K9 K12 := a11.trans a12
            refine u_Lalike (al_pap (e12.kp _ _ h9 NB.tup) h12 (e12.kp _ _ h10 nv_nb) (a12.kp _ _ h11 nv_nb) (by omega) b1 b2) fun K14 a14 => ?_
            have e14 : Ex K9 K14 := e12.trans a14
            have h9' := e14.kp _ _ h9 NB.tup
            have h10' := e14.kp _ _ h10 nv_nb
            have z14 : Ex H3 K14 := a9.trans e14
            clear h9 h10 h11 h12 a11 a12 a14 e12 e14 f11 f12 a9
            walk_at "rd"
            refine Er.x_append h10' (by rw [nv_len]; exact Nat.lt_of_le_of_lt (show _ ≤ 20001 by omega) (by decide)) ?_
            have z15 := Er.mutN (o := .lst (nv ps3 ++ [V.int 0])) z14 nf h10' nv_nb
            walk_at "rd"
            exact ⟨_, _, rfl, e3.trans z15⟩
          · obtain ⟨v6, v7, rfl, e3⟩ := h
            walk_at "rd"
            exact ⟨_, _, _, _, _, _, rfl, e3.bag hbe⟩
      · rename_i d0 L0 y0 y1 y2 y3 pa Ga xa fa ha pb Gb xb fb hb' pc Gc xc fc hc'
        obtain ⟨R, hR⟩ : ∃ R : Int, R = 1 + d0 := ⟨_, rfl⟩
        have R1 : 1 ≤ R := by omega
        have R2 : R ≤ 6000 := by omega
        rw [← hR]
        clear hR
        have lp := Nt.lst_pos F2 R1
        have fr : F * R ≤ 3 * R := Int.mul_le_mul_of_nonneg_right F3 (by omega)
        obtain ⟨mh, hmh⟩ : ∃ m : Nat, Nt.lst F R = m := ⟨(Nt.lst F R).toNat, by omega⟩
        have mp := Nt.Md_pos (rows := R) (by omega)
        obtain ⟨mo, hmo⟩ : ∃ m : Nat, Nt.Md R = m := ⟨(Nt.Md R).toNat, by omega⟩
        have mhl : mh ≤ 18000 := by unfold Nt.lst at hmh; omega
        have mol : mo ≤ 6000 := by unfold Nt.Md at hmo; omega
        have ha' : Gc pa = some (.tup [.str "halve"]) := xc.kp _ _ (xb.kp _ _ ha NB.tup) NB.tup
        have hb'' : Gc pb = some (.tup [.str "pair"]) := xc.kp _ _ hb' NB.tup
        refine u_Lone (by walk_at "bg") hc' (NB.at0b rfl) (Nat.le_of_ble_eq_true rfl) (by show (2 : Nat) < _; decide) fun w0 Gd xd hv => ?_
        obtain ⟨c, z, rfl, hz, hc, gz⟩ : ∃ (c : Addr) (z : Str), w0 = .ref c ∧ Wd z ∧ Gd c = some (.tup [.str z]) ∧ (gg z F R = Nt.hl F R ∨ gg z F R = Nt.pr F R) := by
          simp only [List.mem_cons, List.not_mem_nil, or_false] at hv
          rcases hv with e | e
          · exact ⟨pa, "halve", e, .inl rfl, xd.kp _ _ ha' NB.tup, .inl rfl⟩
          · exact ⟨pb, "pair", e, .inr (.inl rfl), xd.kp _ _ hb'' NB.tup, .inr rfl⟩
        have hbd : Bag b Gd := by walk_at "bg"
        clear hv ha hb' hc' ha' hb'' xa xb xc xd fa fb fc
        obtain ⟨o, od, ol⟩ := Nt.Ord.ex (b := F) (m := mh) (by omega) (Nt.gcdF hmh (by omega) (by omega))
        have sy : Nt.Sys (gg z F R) (F * R) o := by
          rcases gz with e | e
          · rw [e]; exact Nt.sys_hl F2 R1 hmh od
          · rw [e]; exact Nt.sys_pr F2 R1 hmh od
        walk_at "rd"
        refine ⟨c, z, F, R, o, rfl, hz, hc, F2, F3, R1, R2, sy, by omega, fun K8 xe => ?_⟩
        have hbe : Bag b K8 := xe.bag hbd
        clear hc hbd xe sy gz hz
        walk_at "rd"
        refine for_rng (m := 2) (by decide) (by decide) (fun i1 σ H' => ∃ v6 v7 : Option V, σ = [some (.ref s), some (.ref b), some (.int (i : Int)), some (.int F), some (.int R), some (.int (o : Int)), v6, v7] ∧ Ex K8 H') ⟨_, _, rfl, Ex.refl _⟩ (fun i1 σ H3 hi1 h => ?_) (fun σ H3 h => ?_)
        · obtain ⟨v6, v7, rfl, e3⟩ := h
          walk_at "rd"
          refine ⟨F, R, mh, rfl, F2, F3, R1, hmh, by omega, fun p9 q2 o2 ps2 K9 a9 od2 ol2 pl2 nf h9 h10 => ?_⟩
          obtain rfl := Nt.Ord.uniq od2 od
          walk_at "rd"
          refine u_Lprimes od2.pos (by omega) fun q3 ps3 K11 a11 f11 pl3 h11 => ?_
          obtain rfl := Nt.PL.uniq pl3 pl2
          obtain ⟨b1, b2⟩ := pl_small od2.pos (by omega) pl2
          walk_at "rd"
          rename_i p12 K12 a12 f12 h12
          have e12 : Ex K9 K12 := a11.trans a12
          refine u_Lalike (al_pap (e12.kp _ _ h9 NB.tup) h12 (e12.kp _ _ h10 nv_nb) (a12.kp _ _ h11 nv_nb) (by omega) b1 b2) fun K14 a14 => ?_
          have e14 : Ex K9 K14 := e12.trans a14
          have h9' := e14.kp _ _ h9 NB.tup
          have h10' := e14.kp _ _ h10 nv_nb
          have z14 : Ex H3 K14 := a9.trans e14
          clear h9 h10 h11 h12 a11 a12 a14 e12 e14 f11 f12 a9
          walk_at "rd"
          refine Er.x_append h10' (by rw [nv_len]; exact Nat.lt_of_le_of_lt (show _ ≤ 20001 by omega) (by decide)) ?_
          have z15 := Er.mutN (o := .lst (nv ps3 ++ [V.int 0])) z14 nf h10' nv_nb
          walk_at "rd"
          exact ⟨_, _, rfl, e3.trans z15⟩
        · obtain ⟨v6, v7, rfl, e3⟩ := h
          have hb3 : Bag b H3 := e3.bag hbe
          clear e3 hbe od ol
          walk_at "rd"
          rename_i pa Ga xa fa ha pb Gb xb fb hb' pc Gc xc fc hc'
          have ha' : Gc pa = some (.tup [.str "others"]) := xc.kp _ _ (xb.kp _ _ ha NB.tup) NB.tup
          have hb'' : Gc pb = some (.tup [.str "fill"]) := xc.kp _ _ hb' NB.tup
          refine u_Lone (by walk_at "bg") hc' (NB.at0b rfl) (Nat.le_of_ble_eq_true rfl) (by show (2 : Nat) < _; decide) fun w0 Gd xd hv => ?_
          obtain ⟨c, z, rfl, hz, hc, gz⟩ : ∃ (c : Addr) (z : Str), w0 = .ref c ∧ Wd z ∧ Gd c = some (.tup [.str z]) ∧ (gg z F R = Nt.lft F (Nt.oth R) ∨ gg z F R = Nt.lft F (Nt.fil R)) := by
            simp only [List.mem_cons, List.not_mem_nil, or_false] at hv
            rcases hv with e | e
            · exact ⟨pa, "others", e, .inr (.inr (.inl rfl)), xd.kp _ _ ha' NB.tup, .inl rfl⟩
            · exact ⟨pb, "fill", e, .inr (.inr (.inr rfl)), xd.kp _ _ hb'' NB.tup, .inr rfl⟩
          have hbd : Bag b Gd := by walk_at "bg"
          clear hv ha hb' hc' ha' hb'' xa xb xc xd fa fb fc
          obtain ⟨oo, odd, ol⟩ := Nt.Ord.ex (b := 2) (m := mo) (by omega) (Nt.gcd2 R1 hmo)
          have sy : Nt.Sys (gg z F R) (F * R) oo := by
            rcases gz with e | e
            · rw [e]; exact (Nt.sys_oth R1 hmo odd).lift (by omega)
            · rw [e]; exact (Nt.sys_fil R1 hmo odd).lift (by omega)
          walk_at "rd"
          refine ⟨c, z, F, R, oo, rfl, hz, hc, F2, F3, R1, R2, sy, by omega, fun K18 xe => ?_⟩
          have hbe : Bag b K18 := xe.bag hbd
          clear hc hbd xe sy gz hz
          walk_at "rd"
          refine for_rng (m := 2) (by decide) (by decide) (fun i1 σ H' => ∃ v6 v7 : Option V, σ = [some (.ref s), some (.ref b), some (.int (i : Int)), some (.int F), some (.int R), some (.int (oo : Int)), v6, v7] ∧ Ex K18 H') ⟨_, _, rfl, Ex.refl _⟩ (fun i1 σ H3 hi1 h => ?_) (fun σ H3 h => ?_)
          · obtain ⟨v6, v7, rfl, e3⟩ := h
            walk_at "rd"
            refine ⟨R, mo, rfl, by omega, hmo, by omega, fun p9 q2 o2 ps2 K9 a9 od2 ol2 pl2 nf h9 h10 => ?_⟩
            obtain rfl := Nt.Ord.uniq od2 odd
            walk_at "rd"
            refine u_Lprimes od2.pos (by omega) fun q3 ps3 K11 a11 f11 pl3 h11 => ?_
            obtain rfl := Nt.PL.uniq pl3 pl2
            obtain ⟨b1, b2⟩ := pl_small od2.pos (by omega) pl2
            walk_at "rd"
            rename_i p12 K12 a12 f12 h12
            have e12 : Ex K9 K12 := a11.trans a12
            refine u_Lalike (al_pap (e12.kp _ _ h9 NB.tup) h12 (e12.kp _ _ h10 nv_nb) (a12.kp _ _ h11 nv_nb) (by omega) b1 b2) fun K14 a14 => ?_
            have e14 : Ex K9 K14 := e12.trans a14
            have h9' := e14.kp _ _ h9 NB.tup
            have h10' := e14.kp _ _ h10 nv_nb
            have z14 : Ex H3 K14 := a9.trans e14
            clear h9 h10 h11 h12 a11 a12 a14 e12 e14 f11 f12 a9
            walk_at "rd"
            refine Er.x_append h10' (by rw [nv_len]; exact Nat.lt_of_le_of_lt (show _ ≤ 20001 by omega) (by decide)) ?_
            have z15 := Er.mutN (o := .lst (nv ps3 ++ [V.int 0])) z14 nf h10' nv_nb
            walk_at "rd"
            exact ⟨_, _, rfl, e3.trans z15⟩
          · obtain ⟨v6, v7, rfl, e3⟩ := h
            walk_at "rd"
            exact ⟨_, _, _, _, _, _, rfl, e3.bag hbe⟩
end
end My

set_option Elab.async false
set_option linter.all false
set_option maxRecDepth 100000
set_option maxHeartbeats 8000000
namespace My
open PySem PySem.Spec PyProof.Rows L2 Sx
local macro_rules | `(tactic| walk_at "nb") => `(tactic| first | exact NB.tup | exact NB.ints | exact NB.len (of_decide_eq_true rfl) | exact NB.at0b rfl | exact NB.at3b rfl | exact NB.ins | exact NB.own | exact NB.frz | exact NB.refs (by assumption) | assumption)
local macro_rules | `(tactic| walk_at "ne") => `(tactic| first | assumption | exact Ne.symm (by assumption) | exact ne_of_none (by assumption) (by assumption) | exact Ne.symm (ne_of_none (by assumption) (by assumption)))
local macro_rules | `(tactic| walk_at "hk") => `(tactic| first
  | assumption
  | exact upd_same
  | (refine' (upd_ne ?hkne).trans ?hkq; (case hkne => walk_at "ne"); (case hkq => walk_at "hk"))
  | (refine' Ex.kp (by assumption) _ _ ?hkq ?hkn; (case hkq => walk_at "hk"); (case hkn => walk_at "nb")))
local macro_rules | `(tactic| walk_at "rd1") => `(tactic| first
  | ((with_reducible refine' x_var ?hx ?_); (case hx => exact rfl))
  | with_reducible refine x_c ?_
  | with_reducible refine x_op ?_
  | with_reducible refine x_un ?_
  | with_reducible refine x_I0 ?_
  | with_reducible refine x_U ?_
  | ((with_reducible refine x_I ?hc ?_); (case hc => first | exact (by decide : (0 : Int) < _) | (show (0 : Int) < _; omega) | (show CMul _ _; first | exact .inl ⟨by omega, by omega⟩ | exact .inr ⟨by omega, by omega⟩) | (show CDiv _ _; exact ⟨by omega, by omega⟩) | (show CDivW _ _; exact wide_div (b := 200) (by omega) (by assumption) (by decide) (by decide)) | (show CDivW _ _; exact wide_div (b := 31) (by omega) (by omega) (by decide) (by decide))))
  | with_reducible refine x_EqI ?_
  | with_reducible refine x_NeI ?_
  | ((with_reducible refine x_EqSt ?h ?_); (case h => decide +kernel))
  | ((with_reducible refine x_EqSf ?h ?_); (case h => decide +kernel))
  | ((with_reducible refine x_NeSt ?h ?_); (case h => decide +kernel))
  | ((with_reducible refine x_NeSf ?h ?_); (case h => decide +kernel))
  | with_reducible refine x_EqS ?_
  | with_reducible refine x_NeS ?_
  | ((with_reducible refine' x_ixL ?hq ?hi ?_); (case hq => walk_at "hk"); (case hi => first | exact rfl | assumption))
  | ((with_reducible refine' x_ixT ?hq ?hi ?_); (case hq => walk_at "hk"); (case hi => first | exact rfl | assumption))
  | with_reducible refine x_chain ?_
  | with_reducible refine x_tup ?_
  | with_reducible refine x_lst ?_
  | ((with_reducible refine x_lenNew ?hl ?_); (case hl => exact Nat.le_of_ble_eq_true rfl); intro _ _ _ _ _)
  | ((with_reducible refine x_new ?_); intro _ _ _ _ _)
  | with_reducible refine x_sl ?_
  | with_reducible refine x_noPart ?_
  | with_reducible refine x_part ?_
  | with_reducible refine x_ex_int ?_
  | with_reducible refine x_ex_bl ?_
  | with_reducible refine x_ex_2 ?_
  | with_reducible refine x_test ?_
  | with_reducible refine x_B ?_
  | with_reducible refine x_and ?_
  | with_reducible refine x_or ?_
  | with_reducible refine x_not ?_
  | with_reducible refine x_andV ?_
  | with_reducible refine x_orV ?_
  | with_reducible refine x_notV ?_
  | with_reducible refine x_ifE ?_
  | with_reducible refine x_iteT ?_
  | with_reducible refine x_iteF ?_
  | ((with_reducible refine x_iteD ?_ ?_) <;> intro _)
  | ((with_reducible refine x_iteN ?_ ?_) <;> intro _)
  | with_reducible refine x_if ?_
  | with_reducible refine x_seq ?_
  | with_reducible refine x_next ?_
  | with_reducible refine x_asg ?_
  | with_reducible refine x_gName ?_
  | ((with_reducible refine' x_gTup ?hq ?hn ?_); (case hq => walk_at "hk"); (case hn => exact rfl))
  | with_reducible refine x_gCons ?_
  | with_reducible refine x_gNil ?_
  | ((with_reducible refine' x_gConsE ?h ?_); (case h => exact rfl))
  | ((with_reducible refine x_gNilE ?h ?_); (case h => exact rfl))
  | with_reducible refine x_ret ?_
  | with_reducible refine x_drop ?_
  | with_reducible refine x_par ?_
  | ((with_reducible refine' x_aug ?hx ?_); (case hx => exact rfl))
  | with_reducible refine x_ipI ?_
  | with_reducible refine x_augS ?_
  | with_reducible refine x_gSub ?_
  | ((with_reducible refine' x_setL ?hq ?hi ?_); (case hq => walk_at "hk"); (case hi => first | exact rfl | assumption))
  | with_reducible refine x_cons ?_
  | with_reducible refine x_nil ?_
  | with_reducible refine x_CB ?_
  | with_reducible refine x_abs ?_
  | with_reducible refine x_intI ?_
  | with_reducible refine x_intB ?_
  | ((with_reducible refine' x_lenL ?hq ?_); (case hq => walk_at "hk"))
  | ((with_reducible refine' x_lenT ?hq ?_); (case hq => walk_at "hk"))
  | ((with_reducible refine x_iteTe ?h ?_); (case h => exact rfl))
  | ((with_reducible refine x_iteFe ?h ?_); (case h => exact rfl))
  | walk_at "use"
  | with_reducible refine x_callS ?_
  | ((with_reducible refine x_lc ?_))
  | ((with_reducible refine x_for ?_))
  | ((with_reducible refine x_iR1 ?_))
  | ((with_reducible refine x_iL ?_))
  | ((with_reducible refine x_iZ ?_))
  | ((with_reducible refine x_yes ?_))
  | ((with_reducible refine' x_NIDt ?hq ?_); (case hq => assumption))
  | ((with_reducible refine' x_NIDf ?hq ?_); (case hq => assumption))
  | ((with_reducible refine' x_IIDf ?hq ?_); (case hq => assumption))
  | ((with_reducible refine' x_IIDt ?hq ?_); (case hq => assumption))
  | ((with_reducible refine' x_ixDs ?hd ?hq ?_); (case hd => assumption); (case hq => assumption))
  | ((with_reducible refine x_InSt ?h ?_); (case h => decide +kernel))
  | ((with_reducible refine x_InSf ?h ?_); (case h => decide +kernel))
  | ((with_reducible refine' x_notInI ?hq ?_); (case hq => walk_at "hk"))
  | ((with_reducible refine' x_inTt ?hq ?hv ?ha ?he ?_); (case hq => walk_at "hk"); (case hv => exact rfl); (case ha => exact rfl); (case he => decide +kernel))
  | ((with_reducible refine' x_inTf ?hq ?hv ?ha ?he ?_); (case hq => walk_at "hk"); (case hv => exact rfl); (case ha => exact rfl); (case he => decide +kernel))
  | ((with_reducible refine' x_slT ?hq ?hw ?_); (case hq => walk_at "hk"); (case hw => with_unfolding_all exact of_decide_eq_true rfl))
  | ((with_reducible refine' x_slL ?hq ?_); (case hq => walk_at "hk"))
  | ((with_reducible refine' x_catT ?hq ?hr ?n1 ?n2 ?hl ?_); (case hq => walk_at "hk"); (case hr => walk_at "hk"); (case n1 => exact List.cons_ne_nil _ _); (case n2 => exact List.cons_ne_nil _ _); (case hl => exact Nat.le_of_ble_eq_true rfl))
  | ((with_reducible refine x_bm ?_))
  | ((with_reducible refine x_lstRg ?_))
  | ((with_reducible refine x_rg1 ?_))
  | ((with_reducible refine And.intro ?h ?_); (case h => exact tyL (by assumption)))
  | dsimp only)
local macro_rules | `(tactic| walk_at "use") => `(tactic| fail)
local macro_rules | `(tactic| walk_at "rd") => `(tactic| repeat' (walk_at "rd1"))
local macro_rules | `(tactic| walk_at "ex") => `(tactic| first | exact Ex.refl _ | assumption | (refine' Ex.trans ?he (by assumption); (case he => walk_at "ex")))
local macro_rules | `(tactic| walk_at "rd1") => `(tactic| first
  | ((with_reducible refine x_iteDf ?h ?_); (case h => exact rfl))
  | ((with_reducible refine x_iteDt ?h ?_); (case h => exact rfl))
  | ((with_reducible refine x_iteNf ?h ?_); (case h => exact rfl))
  | ((with_reducible refine x_iteNt ?h ?_); (case h => exact rfl))
  | ((with_reducible refine x_isiI (r := true) ?h ?_); (case h => decide +kernel))
  | ((with_reducible refine x_isiI (r := false) ?h ?_); (case h => decide +kernel))
  | ((with_reducible refine x_isiS (r := true) ?h ?_); (case h => decide +kernel))
  | ((with_reducible refine x_isiS (r := false) ?h ?_); (case h => decide +kernel))
  | ((with_reducible refine x_isiB (r := true) ?h ?_); (case h => decide +kernel))
  | ((with_reducible refine x_isiB (r := false) ?h ?_); (case h => decide +kernel))
  | ((with_reducible refine' x_isiT (r := true) ?hp ?h ?_); (case hp => walk_at "hk"); (case h => decide +kernel))
  | ((with_reducible refine' x_isiT (r := false) ?hp ?h ?_); (case hp => walk_at "hk"); (case h => decide +kernel))
  | ((with_reducible refine' x_isiL (r := true) ?hp ?h ?_); (case hp => walk_at "hk"); (case h => decide +kernel))
  | ((with_reducible refine' x_isiL (r := false) ?hp ?h ?_); (case hp => walk_at "hk"); (case h => decide +kernel))
  | ((with_reducible refine' x_isi2L ?hp ?hl ?_); (case hp => walk_at "hk"); (case hl => walk_at "hk"))
  | ((with_reducible refine' x_isi2T ?hp ?hl ?_); (case hp => walk_at "hk"); (case hl => walk_at "hk"))
  | ((with_reducible refine' x_tupOfL ?hq ?_); (case hq => walk_at "hk"))
  | ((with_reducible refine' x_tupOfT ?hq ?_); (case hq => walk_at "hk"))
  | ((with_reducible refine x_lenS ?h ?_); (case h => exact Nat.le_of_ble_eq_true rfl))
  | ((with_reducible refine' x_all ?hq ?_); (case hq => walk_at "hk"))
  | with_reducible refine x_lenSet ?_)
local macro_rules | `(tactic| walk_at "nb") => `(tactic| first | exact NB.xd | exact NB.dK)
local macro_rules | `(tactic| walk_at "rd1") => `(tactic| first
  | with_reducible refine Er.x_par3 ?_
  | with_reducible refine Er.x_ex_3 ?_
  | with_reducible refine Er.x_revL0 ?_
  | ((with_reducible refine' Er.x_revL ?hq ?_); (case hq => walk_at "hk"))
  | with_reducible refine Er.x_dget2 ?_
  | with_reducible refine x_dict0 ?_
  | ((with_reducible refine x_pow ?hc ?_); (case hc => exact ⟨by decide, by decide, by decide⟩))
  | ((with_reducible refine And.intro ?h ?_); (case h => exact tyL (by walk_at "hk")))
  | ((with_reducible refine' Er.x_dis ?hq ?_); (case hq => walk_at "hk"))
  | ((with_reducible refine' Er.x_dgo ?hq ?he ?_); (case hq => walk_at "hk"); (case he => exact rfl)))
local macro_rules | `(tactic| walk_at "rd1") => `(tactic| first
  | with_reducible refine Er.x_callSS ?_
  | ((with_reducible refine Er.x_mulS2 ?h ?h0 ?h1 ?_); (case h => decide); (case h0 => decide); (case h1 => decide)))
local macro_rules | `(tactic| walk_at "rd1") => `(tactic| first
  | with_reducible refine Er.x_iR2 ?_
  | with_reducible refine Er.x_iEn ?_
  | with_reducible refine Er.x_cont ?_
  | ((with_reducible refine Er.x_isBt ?h ?_); (case h => exact rfl))
  | ((with_reducible refine Er.x_isBf ?h ?_); (case h => exact rfl))
  | ((with_reducible refine Er.x_isNBt ?h ?_); (case h => exact rfl))
  | ((with_reducible refine Er.x_isNBf ?h ?_); (case h => exact rfl))
  | with_reducible refine Er.x_isB ?_
  | with_reducible refine Er.x_isNB ?_)
local macro_rules | `(tactic| walk_at "nb") => `(tactic| exact NB.dT)
local macro_rules | `(tactic| walk_at "rd1") => `(tactic| first
  | with_reducible refine Er.x_dNotIn ?_
  | with_reducible refine Er.x_dPut ?_
  | with_reducible refine Er.x_dnewT ?_)

theorem all_mk {l : PySem.W.OpenLaw} {w : World} {K : PySem.W.Frag} {h : Heap} {mg : Str → Option Value} {fa : Addr} (X : K.In h) (G : h.Ns mainGlobals mg) (hfa : mg "law" = some (.ref fa))
    {f_common_divisor : Addr} {od_common_divisor an_common_divisor : Option Addr} {sl_common_divisor : Array (Option Value)} {oc_common_divisor kV_common_divisor dc_common_divisor pm_common_divisor cd_common_divisor ct_common_divisor : Value}
    {f_inverse : Addr} {od_inverse an_inverse : Option Addr} {sl_inverse : Array (Option Value)} {oc_inverse kV_inverse dc_inverse pm_inverse cd_inverse ct_inverse : Value}
    {f_odd_of : Addr} {od_odd_of an_odd_of : Option Addr} {sl_odd_of : Array (Option Value)} {oc_odd_of kV_odd_of dc_odd_of pm_odd_of cd_odd_of ct_odd_of : Value}
    {f_power : Addr} {od_power an_power : Option Addr} {sl_power : Array (Option Value)} {oc_power kV_power dc_power pm_power cd_power ct_power : Value}
    {f_order_paper : Addr} {od_order_paper an_order_paper : Option Addr} {sl_order_paper : Array (Option Value)} {oc_order_paper kV_order_paper dc_order_paper pm_order_paper cd_order_paper ct_order_paper : Value}
    {f_halve_return : Addr} {od_halve_return an_halve_return : Option Addr} {sl_halve_return : Array (Option Value)} {oc_halve_return kV_halve_return dc_halve_return pm_halve_return cd_halve_return ct_halve_return : Value}
    {f_others_return : Addr} {od_others_return an_others_return : Option Addr} {sl_others_return : Array (Option Value)} {oc_others_return kV_others_return dc_others_return pm_others_return cd_others_return ct_others_return : Value}
    {f_has_order : Addr} {od_has_order an_has_order : Option Addr} {sl_has_order : Array (Option Value)} {oc_has_order kV_has_order dc_has_order pm_has_order cd_has_order ct_has_order : Value}
    {f_totient : Addr} {od_totient an_totient : Option Addr} {sl_totient : Array (Option Value)} {oc_totient kV_totient dc_totient pm_totient cd_totient ct_totient : Value}
    {f_primes_of : Addr} {od_primes_of an_primes_of : Option Addr} {sl_primes_of : Array (Option Value)} {oc_primes_of kV_primes_of dc_primes_of pm_primes_of cd_primes_of ct_primes_of : Value}
    {f_Lbag : Addr} {od_Lbag an_Lbag : Option Addr} {sl_Lbag : Array (Option Value)} {oc_Lbag kV_Lbag dc_Lbag pm_Lbag cd_Lbag ct_Lbag : Value}
    {f_Ltake : Addr} {od_Ltake an_Ltake : Option Addr} {sl_Ltake : Array (Option Value)} {oc_Ltake kV_Ltake dc_Ltake pm_Ltake cd_Ltake ct_Ltake : Value}
    {f_Lone : Addr} {od_Lone an_Lone : Option Addr} {sl_Lone : Array (Option Value)} {oc_Lone kV_Lone dc_Lone pm_Lone cd_Lone ct_Lone : Value}
    {f_Lalike : Addr} {od_Lalike an_Lalike : Option Addr} {sl_Lalike : Array (Option Value)} {oc_Lalike kV_Lalike dc_Lalike pm_Lalike cd_Lalike ct_Lalike : Value}
    {f_Lopen : Addr} {od_Lopen an_Lopen : Option Addr} {sl_Lopen : Array (Option Value)} {oc_Lopen kV_Lopen dc_Lopen pm_Lopen cd_Lopen ct_Lopen : Value}
    {f_Lgoes : Addr} {od_Lgoes an_Lgoes : Option Addr} {sl_Lgoes : Array (Option Value)} {oc_Lgoes kV_Lgoes dc_Lgoes pm_Lgoes cd_Lgoes ct_Lgoes : Value}
    {f_Lundo : Addr} {od_Lundo an_Lundo : Option Addr} {sl_Lundo : Array (Option Value)} {oc_Lundo kV_Lundo dc_Lundo pm_Lundo cd_Lundo ct_Lundo : Value}
    {f_Lled : Addr} {od_Lled an_Lled : Option Addr} {sl_Lled : Array (Option Value)} {oc_Lled kV_Lled dc_Lled pm_Lled cd_Lled ct_Lled : Value}
    {f_Lrounds : Addr} {od_Lrounds an_Lrounds : Option Addr} {sl_Lrounds : Array (Option Value)} {oc_Lrounds kV_Lrounds dc_Lrounds pm_Lrounds cd_Lrounds ct_Lrounds : Value}
    {f_Ldivisor : Addr} {od_Ldivisor an_Ldivisor : Option Addr} {sl_Ldivisor : Array (Option Value)} {oc_Ldivisor kV_Ldivisor dc_Ldivisor pm_Ldivisor cd_Ldivisor ct_Ldivisor : Value}
    {f_Lprimes : Addr} {od_Lprimes an_Lprimes : Option Addr} {sl_Lprimes : Array (Option Value)} {oc_Lprimes kV_Lprimes dc_Lprimes pm_Lprimes cd_Lprimes ct_Lprimes : Value}
    {f_Lis_prime : Addr} {od_Lis_prime an_Lis_prime : Option Addr} {sl_Lis_prime : Array (Option Value)} {oc_Lis_prime kV_Lis_prime dc_Lis_prime pm_Lis_prime cd_Lis_prime ct_Lis_prime : Value}
    {f_Lmultiple : Addr} {od_Lmultiple an_Lmultiple : Option Addr} {sl_Lmultiple : Array (Option Value)} {oc_Lmultiple kV_Lmultiple dc_Lmultiple pm_Lmultiple cd_Lmultiple ct_Lmultiple : Value}
    {f_Lreturn : Addr} {od_Lreturn an_Lreturn : Option Addr} {sl_Lreturn : Array (Option Value)} {oc_Lreturn kV_Lreturn dc_Lreturn pm_Lreturn cd_Lreturn ct_Lreturn : Value}
    {f_law : Addr} {od_law an_law : Option Addr} {sl_law : Array (Option Value)} {oc_law kV_law dc_law pm_law cd_law ct_law : Value}
    (a_common_divisor : PySem.W.nsIn K mainGlobals "common_divisor" = some (some (.ref f_common_divisor)))
    (l_common_divisor : K.lookup f_common_divisor = some ⟨oc_common_divisor, od_common_divisor, .func (PySem.W.fnOf "common_divisor" "common_divisor" (defArgs s_common_divisor) (defBody s_common_divisor) (defScope s_common_divisor) .none kV_common_divisor dc_common_divisor pm_common_divisor an_common_divisor cd_common_divisor ct_common_divisor), sl_common_divisor⟩)
    (c_common_divisor : PySem.W.codeIn K cd_common_divisor "common_divisor" = true)
    (k_common_divisor : PySem.W.keepIn K (.ref f_common_divisor) = true)
    (a_inverse : PySem.W.nsIn K mainGlobals "inverse" = some (some (.ref f_inverse)))
    (l_inverse : K.lookup f_inverse = some ⟨oc_inverse, od_inverse, .func (PySem.W.fnOf "inverse" "inverse" (defArgs s_inverse) (defBody s_inverse) (defScope s_inverse) .none kV_inverse dc_inverse pm_inverse an_inverse cd_inverse ct_inverse), sl_inverse⟩)
    (c_inverse : PySem.W.codeIn K cd_inverse "inverse" = true)
    (k_inverse : PySem.W.keepIn K (.ref f_inverse) = true)
    (a_odd_of : PySem.W.nsIn K mainGlobals "odd_of" = some (some (.ref f_odd_of)))
    (l_odd_of : K.lookup f_odd_of = some ⟨oc_odd_of, od_odd_of, .func (PySem.W.fnOf "odd_of" "odd_of" (defArgs s_odd_of) (defBody s_odd_of) (defScope s_odd_of) .none kV_odd_of dc_odd_of pm_odd_of an_odd_of cd_odd_of ct_odd_of), sl_odd_of⟩)
    (c_odd_of : PySem.W.codeIn K cd_odd_of "odd_of" = true)
    (k_odd_of : PySem.W.keepIn K (.ref f_odd_of) = true)
    (a_power : PySem.W.nsIn K mainGlobals "power" = some (some (.ref f_power)))
    (l_power : K.lookup f_power = some ⟨oc_power, od_power, .func (PySem.W.fnOf "power" "power" (defArgs s_power) (defBody s_power) (defScope s_power) .none kV_power dc_power pm_power an_power cd_power ct_power), sl_power⟩)
    (c_power : PySem.W.codeIn K cd_power "power" = true)
    (k_power : PySem.W.keepIn K (.ref f_power) = true)
    (a_order_paper : PySem.W.nsIn K mainGlobals "order_paper" = some (some (.ref f_order_paper)))
    (l_order_paper : K.lookup f_order_paper = some ⟨oc_order_paper, od_order_paper, .func (PySem.W.fnOf "order_paper" "order_paper" (defArgs s_order_paper) (defBody s_order_paper) (defScope s_order_paper) .none kV_order_paper dc_order_paper pm_order_paper an_order_paper cd_order_paper ct_order_paper), sl_order_paper⟩)
    (c_order_paper : PySem.W.codeIn K cd_order_paper "order_paper" = true)
    (k_order_paper : PySem.W.keepIn K (.ref f_order_paper) = true)
    (a_halve_return : PySem.W.nsIn K mainGlobals "halve_return" = some (some (.ref f_halve_return)))
    (l_halve_return : K.lookup f_halve_return = some ⟨oc_halve_return, od_halve_return, .func (PySem.W.fnOf "halve_return" "halve_return" (defArgs s_halve_return) (defBody s_halve_return) (defScope s_halve_return) .none kV_halve_return dc_halve_return pm_halve_return an_halve_return cd_halve_return ct_halve_return), sl_halve_return⟩)
    (c_halve_return : PySem.W.codeIn K cd_halve_return "halve_return" = true)
    (k_halve_return : PySem.W.keepIn K (.ref f_halve_return) = true)
    (a_others_return : PySem.W.nsIn K mainGlobals "others_return" = some (some (.ref f_others_return)))
    (l_others_return : K.lookup f_others_return = some ⟨oc_others_return, od_others_return, .func (PySem.W.fnOf "others_return" "others_return" (defArgs s_others_return) (defBody s_others_return) (defScope s_others_return) .none kV_others_return dc_others_return pm_others_return an_others_return cd_others_return ct_others_return), sl_others_return⟩)
    (c_others_return : PySem.W.codeIn K cd_others_return "others_return" = true)
    (k_others_return : PySem.W.keepIn K (.ref f_others_return) = true)
    (a_has_order : PySem.W.nsIn K mainGlobals "has_order" = some (some (.ref f_has_order)))
    (l_has_order : K.lookup f_has_order = some ⟨oc_has_order, od_has_order, .func (PySem.W.fnOf "has_order" "has_order" (defArgs s_has_order) (defBody s_has_order) (defScope s_has_order) .none kV_has_order dc_has_order pm_has_order an_has_order cd_has_order ct_has_order), sl_has_order⟩)
    (c_has_order : PySem.W.codeIn K cd_has_order "has_order" = true)
    (k_has_order : PySem.W.keepIn K (.ref f_has_order) = true)
    (a_totient : PySem.W.nsIn K mainGlobals "totient" = some (some (.ref f_totient)))
    (l_totient : K.lookup f_totient = some ⟨oc_totient, od_totient, .func (PySem.W.fnOf "totient" "totient" (defArgs s_totient) (defBody s_totient) (defScope s_totient) .none kV_totient dc_totient pm_totient an_totient cd_totient ct_totient), sl_totient⟩)
    (c_totient : PySem.W.codeIn K cd_totient "totient" = true)
    (k_totient : PySem.W.keepIn K (.ref f_totient) = true)
    (a_primes_of : PySem.W.nsIn K mainGlobals "primes_of" = some (some (.ref f_primes_of)))
    (l_primes_of : K.lookup f_primes_of = some ⟨oc_primes_of, od_primes_of, .func (PySem.W.fnOf "primes_of" "primes_of" (defArgs s_primes_of) (defBody s_primes_of) (defScope s_primes_of) .none kV_primes_of dc_primes_of pm_primes_of an_primes_of cd_primes_of ct_primes_of), sl_primes_of⟩)
    (c_primes_of : PySem.W.codeIn K cd_primes_of "primes_of" = true)
    (k_primes_of : PySem.W.keepIn K (.ref f_primes_of) = true)
    (a_Lbag : PySem.W.nsIn K mainGlobals "_law_bag" = some (some (.ref f_Lbag)))
    (l_Lbag : K.lookup f_Lbag = some ⟨oc_Lbag, od_Lbag, .func (PySem.W.fnOf "_law_bag" "_law_bag" (defArgs s_Lbag) (defBody s_Lbag) (defScope s_Lbag) .none kV_Lbag dc_Lbag pm_Lbag an_Lbag cd_Lbag ct_Lbag), sl_Lbag⟩)
    (c_Lbag : PySem.W.codeIn K cd_Lbag "_law_bag" = true)
    (k_Lbag : PySem.W.keepIn K (.ref f_Lbag) = true)
    (a_Ltake : PySem.W.nsIn K mainGlobals "_law_take" = some (some (.ref f_Ltake)))
    (l_Ltake : K.lookup f_Ltake = some ⟨oc_Ltake, od_Ltake, .func (PySem.W.fnOf "_law_take" "_law_take" (defArgs s_Ltake) (defBody s_Ltake) (defScope s_Ltake) .none kV_Ltake dc_Ltake pm_Ltake an_Ltake cd_Ltake ct_Ltake), sl_Ltake⟩)
    (c_Ltake : PySem.W.codeIn K cd_Ltake "_law_take" = true)
    (k_Ltake : PySem.W.keepIn K (.ref f_Ltake) = true)
    (a_Lone : PySem.W.nsIn K mainGlobals "_law_one" = some (some (.ref f_Lone)))
    (l_Lone : K.lookup f_Lone = some ⟨oc_Lone, od_Lone, .func (PySem.W.fnOf "_law_one" "_law_one" (defArgs s_Lone) (defBody s_Lone) (defScope s_Lone) .none kV_Lone dc_Lone pm_Lone an_Lone cd_Lone ct_Lone), sl_Lone⟩)
    (c_Lone : PySem.W.codeIn K cd_Lone "_law_one" = true)
    (k_Lone : PySem.W.keepIn K (.ref f_Lone) = true)
    (a_Lalike : PySem.W.nsIn K mainGlobals "_law_alike" = some (some (.ref f_Lalike)))
    (l_Lalike : K.lookup f_Lalike = some ⟨oc_Lalike, od_Lalike, .func (PySem.W.fnOf "_law_alike" "_law_alike" (defArgs s_Lalike) (defBody s_Lalike) (defScope s_Lalike) .none kV_Lalike dc_Lalike pm_Lalike an_Lalike cd_Lalike ct_Lalike), sl_Lalike⟩)
    (c_Lalike : PySem.W.codeIn K cd_Lalike "_law_alike" = true)
    (k_Lalike : PySem.W.keepIn K (.ref f_Lalike) = true)
    (a_Lopen : PySem.W.nsIn K mainGlobals "_law_open" = some (some (.ref f_Lopen)))
    (l_Lopen : K.lookup f_Lopen = some ⟨oc_Lopen, od_Lopen, .func (PySem.W.fnOf "_law_open" "_law_open" (defArgs s_Lopen) (defBody s_Lopen) (defScope s_Lopen) .none kV_Lopen dc_Lopen pm_Lopen an_Lopen cd_Lopen ct_Lopen), sl_Lopen⟩)
    (c_Lopen : PySem.W.codeIn K cd_Lopen "_law_open" = true)
    (k_Lopen : PySem.W.keepIn K (.ref f_Lopen) = true)
    (a_Lgoes : PySem.W.nsIn K mainGlobals "_law_goes" = some (some (.ref f_Lgoes)))
    (l_Lgoes : K.lookup f_Lgoes = some ⟨oc_Lgoes, od_Lgoes, .func (PySem.W.fnOf "_law_goes" "_law_goes" (defArgs s_Lgoes) (defBody s_Lgoes) (defScope s_Lgoes) .none kV_Lgoes dc_Lgoes pm_Lgoes an_Lgoes cd_Lgoes ct_Lgoes), sl_Lgoes⟩)
    (c_Lgoes : PySem.W.codeIn K cd_Lgoes "_law_goes" = true)
    (k_Lgoes : PySem.W.keepIn K (.ref f_Lgoes) = true)
    (a_Lundo : PySem.W.nsIn K mainGlobals "_law_undo" = some (some (.ref f_Lundo)))
    (l_Lundo : K.lookup f_Lundo = some ⟨oc_Lundo, od_Lundo, .func (PySem.W.fnOf "_law_undo" "_law_undo" (defArgs s_Lundo) (defBody s_Lundo) (defScope s_Lundo) .none kV_Lundo dc_Lundo pm_Lundo an_Lundo cd_Lundo ct_Lundo), sl_Lundo⟩)
    (c_Lundo : PySem.W.codeIn K cd_Lundo "_law_undo" = true)
    (k_Lundo : PySem.W.keepIn K (.ref f_Lundo) = true)
    (a_Lled : PySem.W.nsIn K mainGlobals "_law_led" = some (some (.ref f_Lled)))
    (l_Lled : K.lookup f_Lled = some ⟨oc_Lled, od_Lled, .func (PySem.W.fnOf "_law_led" "_law_led" (defArgs s_Lled) (defBody s_Lled) (defScope s_Lled) .none kV_Lled dc_Lled pm_Lled an_Lled cd_Lled ct_Lled), sl_Lled⟩)
    (c_Lled : PySem.W.codeIn K cd_Lled "_law_led" = true)
    (k_Lled : PySem.W.keepIn K (.ref f_Lled) = true)
    (a_Lrounds : PySem.W.nsIn K mainGlobals "_law_rounds" = some (some (.ref f_Lrounds)))
    (l_Lrounds : K.lookup f_Lrounds = some ⟨oc_Lrounds, od_Lrounds, .func (PySem.W.fnOf "_law_rounds" "_law_rounds" (defArgs s_Lrounds) (defBody s_Lrounds) (defScope s_Lrounds) .none kV_Lrounds dc_Lrounds pm_Lrounds an_Lrounds cd_Lrounds ct_Lrounds), sl_Lrounds⟩)
    (c_Lrounds : PySem.W.codeIn K cd_Lrounds "_law_rounds" = true)
    (k_Lrounds : PySem.W.keepIn K (.ref f_Lrounds) = true)
    (a_Ldivisor : PySem.W.nsIn K mainGlobals "_law_divisor" = some (some (.ref f_Ldivisor)))
    (l_Ldivisor : K.lookup f_Ldivisor = some ⟨oc_Ldivisor, od_Ldivisor, .func (PySem.W.fnOf "_law_divisor" "_law_divisor" (defArgs s_Ldivisor) (defBody s_Ldivisor) (defScope s_Ldivisor) .none kV_Ldivisor dc_Ldivisor pm_Ldivisor an_Ldivisor cd_Ldivisor ct_Ldivisor), sl_Ldivisor⟩)
    (c_Ldivisor : PySem.W.codeIn K cd_Ldivisor "_law_divisor" = true)
    (k_Ldivisor : PySem.W.keepIn K (.ref f_Ldivisor) = true)
    (a_Lprimes : PySem.W.nsIn K mainGlobals "_law_primes" = some (some (.ref f_Lprimes)))
    (l_Lprimes : K.lookup f_Lprimes = some ⟨oc_Lprimes, od_Lprimes, .func (PySem.W.fnOf "_law_primes" "_law_primes" (defArgs s_Lprimes) (defBody s_Lprimes) (defScope s_Lprimes) .none kV_Lprimes dc_Lprimes pm_Lprimes an_Lprimes cd_Lprimes ct_Lprimes), sl_Lprimes⟩)
    (c_Lprimes : PySem.W.codeIn K cd_Lprimes "_law_primes" = true)
    (k_Lprimes : PySem.W.keepIn K (.ref f_Lprimes) = true)
    (a_Lis_prime : PySem.W.nsIn K mainGlobals "_law_is_prime" = some (some (.ref f_Lis_prime)))
    (l_Lis_prime : K.lookup f_Lis_prime = some ⟨oc_Lis_prime, od_Lis_prime, .func (PySem.W.fnOf "_law_is_prime" "_law_is_prime" (defArgs s_Lis_prime) (defBody s_Lis_prime) (defScope s_Lis_prime) .none kV_Lis_prime dc_Lis_prime pm_Lis_prime an_Lis_prime cd_Lis_prime ct_Lis_prime), sl_Lis_prime⟩)
    (c_Lis_prime : PySem.W.codeIn K cd_Lis_prime "_law_is_prime" = true)
    (k_Lis_prime : PySem.W.keepIn K (.ref f_Lis_prime) = true)
    (a_Lmultiple : PySem.W.nsIn K mainGlobals "_law_multiple" = some (some (.ref f_Lmultiple)))
    (l_Lmultiple : K.lookup f_Lmultiple = some ⟨oc_Lmultiple, od_Lmultiple, .func (PySem.W.fnOf "_law_multiple" "_law_multiple" (defArgs s_Lmultiple) (defBody s_Lmultiple) (defScope s_Lmultiple) .none kV_Lmultiple dc_Lmultiple pm_Lmultiple an_Lmultiple cd_Lmultiple ct_Lmultiple), sl_Lmultiple⟩)
    (c_Lmultiple : PySem.W.codeIn K cd_Lmultiple "_law_multiple" = true)
    (k_Lmultiple : PySem.W.keepIn K (.ref f_Lmultiple) = true)
    (a_Lreturn : PySem.W.nsIn K mainGlobals "_law_return" = some (some (.ref f_Lreturn)))
    (l_Lreturn : K.lookup f_Lreturn = some ⟨oc_Lreturn, od_Lreturn, .func (PySem.W.fnOf "_law_return" "_law_return" (defArgs s_Lreturn) (defBody s_Lreturn) (defScope s_Lreturn) .none kV_Lreturn dc_Lreturn pm_Lreturn an_Lreturn cd_Lreturn ct_Lreturn), sl_Lreturn⟩)
    (c_Lreturn : PySem.W.codeIn K cd_Lreturn "_law_return" = true)
    (k_Lreturn : PySem.W.keepIn K (.ref f_Lreturn) = true)
    (a_law : PySem.W.nsIn K mainGlobals "law" = some (some (.ref f_law)))
    (l_law : K.lookup f_law = some ⟨oc_law, od_law, .func (PySem.W.fnOf "law" "law" (defArgs s_law) (defBody s_law) (defScope s_law) .none kV_law dc_law pm_law an_law cd_law ct_law), sl_law⟩)
    (c_law : PySem.W.codeIn K cd_law "law" = true)
    (k_law : PySem.W.keepIn K (.ref f_law) = true)
    (z_len : PySem.W.nsIn K mainGlobals "len" = some none)
    (z_abs : PySem.W.nsIn K mainGlobals "abs" = some none)
    (z_int : PySem.W.nsIn K mainGlobals "int" = some none)
    (z_range : PySem.W.nsIn K mainGlobals "range" = some none)
    (z_repr : PySem.W.nsIn K mainGlobals "repr" = some none) :
    ∃ fd : FuncData, (∀ (s : Shared) (v : Value), BindsTo s fd ⟨[v], []⟩ [("_law_script", v)]) ∧ ∀ base : Heap, K.In base → base.Ns mainGlobals mg → Ow.FnG l.prog w K mg base CX0 6 fa fd ["_law_script"] (sp_law K) := by
  have e := hfa.symm.trans (PySem.W.mg_of X G a_law)
  cases e
  have T : Txt K w mg { a_common_divisor := f_common_divisor, fd_common_divisor := PySem.W.fnOf "common_divisor" "common_divisor" (defArgs s_common_divisor) (defBody s_common_divisor) (defScope s_common_divisor) .none kV_common_divisor dc_common_divisor pm_common_divisor an_common_divisor cd_common_divisor ct_common_divisor, a_inverse := f_inverse, fd_inverse := PySem.W.fnOf "inverse" "inverse" (defArgs s_inverse) (defBody s_inverse) (defScope s_inverse) .none kV_inverse dc_inverse pm_inverse an_inverse cd_inverse ct_inverse, a_odd_of := f_odd_of, fd_odd_of := PySem.W.fnOf "odd_of" "odd_of" (defArgs s_odd_of) (defBody s_odd_of) (defScope s_odd_of) .none kV_odd_of dc_odd_of pm_odd_of an_odd_of cd_odd_of ct_odd_of, a_power := f_power, fd_power := PySem.W.fnOf "power" "power" (defArgs s_power) (defBody s_power) (defScope s_power) .none kV_power dc_power pm_power an_power cd_power ct_power, a_order_paper := f_order_paper, fd_order_paper := PySem.W.fnOf "order_paper" "order_paper" (defArgs s_order_paper) (defBody s_order_paper) (defScope s_order_paper) .none kV_order_paper dc_order_paper pm_order_paper an_order_paper cd_order_paper ct_order_paper, a_halve_return := f_halve_return, fd_halve_return := PySem.W.fnOf "halve_return" "halve_return" (defArgs s_halve_return) (defBody s_halve_return) (defScope s_halve_return) .none kV_halve_return dc_halve_return pm_halve_return an_halve_return cd_halve_return ct_halve_return, a_others_return := f_others_return, fd_others_return := PySem.W.fnOf "others_return" "others_return" (defArgs s_others_return) (defBody s_others_return) (defScope s_others_return) .none kV_others_return dc_others_return pm_others_return an_others_return cd_others_return ct_others_return, a_has_order := f_has_order, fd_has_order := PySem.W.fnOf "has_order" "has_order" (defArgs s_has_order) (defBody s_has_order) (defScope s_has_order) .none kV_has_order dc_has_order pm_has_order an_has_order cd_has_order ct_has_order, a_totient := f_totient, fd_totient := PySem.W.fnOf "totient" "totient" (defArgs s_totient) (defBody s_totient) (defScope s_totient) .none kV_totient dc_totient pm_totient an_totient cd_totient ct_totient, a_primes_of := f_primes_of, fd_primes_of := PySem.W.fnOf "primes_of" "primes_of" (defArgs s_primes_of) (defBody s_primes_of) (defScope s_primes_of) .none kV_primes_of dc_primes_of pm_primes_of an_primes_of cd_primes_of ct_primes_of, a_Lbag := f_Lbag, fd_Lbag := PySem.W.fnOf "_law_bag" "_law_bag" (defArgs s_Lbag) (defBody s_Lbag) (defScope s_Lbag) .none kV_Lbag dc_Lbag pm_Lbag an_Lbag cd_Lbag ct_Lbag, a_Ltake := f_Ltake, fd_Ltake := PySem.W.fnOf "_law_take" "_law_take" (defArgs s_Ltake) (defBody s_Ltake) (defScope s_Ltake) .none kV_Ltake dc_Ltake pm_Ltake an_Ltake cd_Ltake ct_Ltake, a_Lone := f_Lone, fd_Lone := PySem.W.fnOf "_law_one" "_law_one" (defArgs s_Lone) (defBody s_Lone) (defScope s_Lone) .none kV_Lone dc_Lone pm_Lone an_Lone cd_Lone ct_Lone, a_Lalike := f_Lalike, fd_Lalike := PySem.W.fnOf "_law_alike" "_law_alike" (defArgs s_Lalike) (defBody s_Lalike) (defScope s_Lalike) .none kV_Lalike dc_Lalike pm_Lalike an_Lalike cd_Lalike ct_Lalike, a_Lopen := f_Lopen, fd_Lopen := PySem.W.fnOf "_law_open" "_law_open" (defArgs s_Lopen) (defBody s_Lopen) (defScope s_Lopen) .none kV_Lopen dc_Lopen pm_Lopen an_Lopen cd_Lopen ct_Lopen, a_Lgoes := f_Lgoes, fd_Lgoes := PySem.W.fnOf "_law_goes" "_law_goes" (defArgs s_Lgoes) (defBody s_Lgoes) (defScope s_Lgoes) .none kV_Lgoes dc_Lgoes pm_Lgoes an_Lgoes cd_Lgoes ct_Lgoes, a_Lundo := f_Lundo, fd_Lundo := PySem.W.fnOf "_law_undo" "_law_undo" (defArgs s_Lundo) (defBody s_Lundo) (defScope s_Lundo) .none kV_Lundo dc_Lundo pm_Lundo an_Lundo cd_Lundo ct_Lundo, a_Lled := f_Lled, fd_Lled := PySem.W.fnOf "_law_led" "_law_led" (defArgs s_Lled) (defBody s_Lled) (defScope s_Lled) .none kV_Lled dc_Lled pm_Lled an_Lled cd_Lled ct_Lled, a_Lrounds := f_Lrounds, fd_Lrounds := PySem.W.fnOf "_law_rounds" "_law_rounds" (defArgs s_Lrounds) (defBody s_Lrounds) (defScope s_Lrounds) .none kV_Lrounds dc_Lrounds pm_Lrounds an_Lrounds cd_Lrounds ct_Lrounds, a_Ldivisor := f_Ldivisor, fd_Ldivisor := PySem.W.fnOf "_law_divisor" "_law_divisor" (defArgs s_Ldivisor) (defBody s_Ldivisor) (defScope s_Ldivisor) .none kV_Ldivisor dc_Ldivisor pm_Ldivisor an_Ldivisor cd_Ldivisor ct_Ldivisor, a_Lprimes := f_Lprimes, fd_Lprimes := PySem.W.fnOf "_law_primes" "_law_primes" (defArgs s_Lprimes) (defBody s_Lprimes) (defScope s_Lprimes) .none kV_Lprimes dc_Lprimes pm_Lprimes an_Lprimes cd_Lprimes ct_Lprimes, a_Lis_prime := f_Lis_prime, fd_Lis_prime := PySem.W.fnOf "_law_is_prime" "_law_is_prime" (defArgs s_Lis_prime) (defBody s_Lis_prime) (defScope s_Lis_prime) .none kV_Lis_prime dc_Lis_prime pm_Lis_prime an_Lis_prime cd_Lis_prime ct_Lis_prime, a_Lmultiple := f_Lmultiple, fd_Lmultiple := PySem.W.fnOf "_law_multiple" "_law_multiple" (defArgs s_Lmultiple) (defBody s_Lmultiple) (defScope s_Lmultiple) .none kV_Lmultiple dc_Lmultiple pm_Lmultiple an_Lmultiple cd_Lmultiple ct_Lmultiple, a_Lreturn := f_Lreturn, fd_Lreturn := PySem.W.fnOf "_law_return" "_law_return" (defArgs s_Lreturn) (defBody s_Lreturn) (defScope s_Lreturn) .none kV_Lreturn dc_Lreturn pm_Lreturn an_Lreturn cd_Lreturn ct_Lreturn, a_law := fa, fd_law := PySem.W.fnOf "law" "law" (defArgs s_law) (defBody s_law) (defScope s_law) .none kV_law dc_law pm_law an_law cd_law ct_law } := { m_common_divisor := PySem.W.mg_of X G a_common_divisor, F_common_divisor := fun_mk (st := s_common_divisor) l_common_divisor c_common_divisor k_common_divisor, k_common_divisor := k_common_divisor, b_common_divisor := (fun_mk (st := s_common_divisor) l_common_divisor c_common_divisor k_common_divisor).binds (ps := ["one", "other"]) fun _ _ _ _ _ _ us hl => match us, hl with | [_, _], _ => rfl, m_inverse := PySem.W.mg_of X G a_inverse, F_inverse := fun_mk (st := s_inverse) l_inverse c_inverse k_inverse, k_inverse := k_inverse, b_inverse := (fun_mk (st := s_inverse) l_inverse c_inverse k_inverse).binds (ps := ["number", "modulus"]) fun _ _ _ _ _ _ us hl => match us, hl with | [_, _], _ => rfl, m_odd_of := PySem.W.mg_of X G a_odd_of, F_odd_of := fun_mk (st := s_odd_of) l_odd_of c_odd_of k_odd_of, k_odd_of := k_odd_of, b_odd_of := (fun_mk (st := s_odd_of) l_odd_of c_odd_of k_odd_of).binds (ps := ["rows"]) fun _ _ _ _ _ _ us hl => match us, hl with | [_], _ => rfl, m_power := PySem.W.mg_of X G a_power, F_power := fun_mk (st := s_power) l_power c_power k_power, k_power := k_power, b_power := (fun_mk (st := s_power) l_power c_power k_power).binds (ps := ["base", "exponent", "modulus"]) fun _ _ _ _ _ _ us hl => match us, hl with | [_, _, _], _ => rfl, m_order_paper := PySem.W.mg_of X G a_order_paper, F_order_paper := fun_mk (st := s_order_paper) l_order_paper c_order_paper k_order_paper, k_order_paper := k_order_paper, b_order_paper := (fun_mk (st := s_order_paper) l_order_paper c_order_paper k_order_paper).binds (ps := ["base", "modulus"]) fun _ _ _ _ _ _ us hl => match us, hl with | [_, _], _ => rfl, m_halve_return := PySem.W.mg_of X G a_halve_return, F_halve_return := fun_mk (st := s_halve_return) l_halve_return c_halve_return k_halve_return, k_halve_return := k_halve_return, b_halve_return := (fun_mk (st := s_halve_return) l_halve_return c_halve_return k_halve_return).binds (ps := ["files", "rows"]) fun _ _ _ _ _ _ us hl => match us, hl with | [_, _], _ => rfl, m_others_return := PySem.W.mg_of X G a_others_return, F_others_return := fun_mk (st := s_others_return) l_others_return c_others_return k_others_return, k_others_return := k_others_return, b_others_return := (fun_mk (st := s_others_return) l_others_return c_others_return k_others_return).binds (ps := ["rows"]) fun _ _ _ _ _ _ us hl => match us, hl with | [_], _ => rfl, m_has_order := PySem.W.mg_of X G a_has_order, F_has_order := fun_mk (st := s_has_order) l_has_order c_has_order k_has_order, k_has_order := k_has_order, b_has_order := (fun_mk (st := s_has_order) l_has_order c_has_order k_has_order).binds (ps := ["base", "modulus"]) fun _ _ _ _ _ _ us hl => match us, hl with | [_, _], _ => rfl, m_totient := PySem.W.mg_of X G a_totient, F_totient := fun_mk (st := s_totient) l_totient c_totient k_totient, k_totient := k_totient, b_totient := (fun_mk (st := s_totient) l_totient c_totient k_totient).binds (ps := ["modulus"]) fun _ _ _ _ _ _ us hl => match us, hl with | [_], _ => rfl, m_primes_of := PySem.W.mg_of X G a_primes_of, F_primes_of := fun_mk (st := s_primes_of) l_primes_of c_primes_of k_primes_of, k_primes_of := k_primes_of, b_primes_of := (fun_mk (st := s_primes_of) l_primes_of c_primes_of k_primes_of).binds (ps := ["number"]) fun _ _ _ _ _ _ us hl => match us, hl with | [_], _ => rfl, m_Lbag := PySem.W.mg_of X G a_Lbag, F_Lbag := fun_mk (st := s_Lbag) l_Lbag c_Lbag k_Lbag, k_Lbag := k_Lbag, b_Lbag := (fun_mk (st := s_Lbag) l_Lbag c_Lbag k_Lbag).binds (ps := ["_law_script"]) fun _ _ _ _ _ _ us hl => match us, hl with | [_], _ => rfl, m_Ltake := PySem.W.mg_of X G a_Ltake, F_Ltake := fun_mk (st := s_Ltake) l_Ltake c_Ltake k_Ltake, k_Ltake := k_Ltake, b_Ltake := (fun_mk (st := s_Ltake) l_Ltake c_Ltake k_Ltake).binds (ps := ["_law_bag_here", "_law_upto"]) fun _ _ _ _ _ _ us hl => match us, hl with | [_, _], _ => rfl, m_Lone := PySem.W.mg_of X G a_Lone, F_Lone := fun_mk (st := s_Lone) l_Lone c_Lone k_Lone, k_Lone := k_Lone, b_Lone := (fun_mk (st := s_Lone) l_Lone c_Lone k_Lone).binds (ps := ["_law_bag_here", "_law_some"]) fun _ _ _ _ _ _ us hl => match us, hl with | [_, _], _ => rfl, m_Lalike := PySem.W.mg_of X G a_Lalike, F_Lalike := fun_mk (st := s_Lalike) l_Lalike c_Lalike k_Lalike, k_Lalike := k_Lalike, b_Lalike := (fun_mk (st := s_Lalike) l_Lalike c_Lalike k_Lalike).binds (ps := ["_law_found", "_law_due"]) fun _ _ _ _ _ _ us hl => match us, hl with | [_, _], _ => rfl, m_Lopen := PySem.W.mg_of X G a_Lopen, F_Lopen := fun_mk (st := s_Lopen) l_Lopen c_Lopen k_Lopen, k_Lopen := k_Lopen, b_Lopen := (fun_mk (st := s_Lopen) l_Lopen c_Lopen k_Lopen).binds (ps := ["_law_word", "_law_files", "_law_rows", "_law_place"]) fun _ _ _ _ _ _ us hl => match us, hl with | [_, _, _, _], _ => rfl, m_Lgoes := PySem.W.mg_of X G a_Lgoes, F_Lgoes := fun_mk (st := s_Lgoes) l_Lgoes c_Lgoes k_Lgoes, k_Lgoes := k_Lgoes, b_Lgoes := (fun_mk (st := s_Lgoes) l_Lgoes c_Lgoes k_Lgoes).binds (ps := ["_law_call", "_law_files", "_law_rows", "_law_place"]) fun _ _ _ _ _ _ us hl => match us, hl with | [_, _, _, _], _ => rfl, m_Lundo := PySem.W.mg_of X G a_Lundo, F_Lundo := fun_mk (st := s_Lundo) l_Lundo c_Lundo k_Lundo, k_Lundo := k_Lundo, b_Lundo := (fun_mk (st := s_Lundo) l_Lundo c_Lundo k_Lundo).binds (ps := ["_law_calls"]) fun _ _ _ _ _ _ us hl => match us, hl with | [_], _ => rfl, m_Lled := PySem.W.mg_of X G a_Lled, F_Lled := fun_mk (st := s_Lled) l_Lled c_Lled k_Lled, k_Lled := k_Lled, b_Lled := (fun_mk (st := s_Lled) l_Lled c_Lled k_Lled).binds (ps := ["_law_calls", "_law_files", "_law_rows", "_law_place", "_law_rounds_here"]) fun _ _ _ _ _ _ us hl => match us, hl with | [_, _, _, _, _], _ => rfl, m_Lrounds := PySem.W.mg_of X G a_Lrounds, F_Lrounds := fun_mk (st := s_Lrounds) l_Lrounds c_Lrounds k_Lrounds, k_Lrounds := k_Lrounds, b_Lrounds := (fun_mk (st := s_Lrounds) l_Lrounds c_Lrounds k_Lrounds).binds (ps := ["_law_calls", "_law_files", "_law_rows", "_law_place"]) fun _ _ _ _ _ _ us hl => match us, hl with | [_, _, _, _], _ => rfl, m_Ldivisor := PySem.W.mg_of X G a_Ldivisor, F_Ldivisor := fun_mk (st := s_Ldivisor) l_Ldivisor c_Ldivisor k_Ldivisor, k_Ldivisor := k_Ldivisor, b_Ldivisor := (fun_mk (st := s_Ldivisor) l_Ldivisor c_Ldivisor k_Ldivisor).binds (ps := ["_law_one_here", "_law_other"]) fun _ _ _ _ _ _ us hl => match us, hl with | [_, _], _ => rfl, m_Lprimes := PySem.W.mg_of X G a_Lprimes, F_Lprimes := fun_mk (st := s_Lprimes) l_Lprimes c_Lprimes k_Lprimes, k_Lprimes := k_Lprimes, b_Lprimes := (fun_mk (st := s_Lprimes) l_Lprimes c_Lprimes k_Lprimes).binds (ps := ["_law_number"]) fun _ _ _ _ _ _ us hl => match us, hl with | [_], _ => rfl, m_Lis_prime := PySem.W.mg_of X G a_Lis_prime, F_Lis_prime := fun_mk (st := s_Lis_prime) l_Lis_prime c_Lis_prime k_Lis_prime, k_Lis_prime := k_Lis_prime, b_Lis_prime := (fun_mk (st := s_Lis_prime) l_Lis_prime c_Lis_prime k_Lis_prime).binds (ps := ["_law_number"]) fun _ _ _ _ _ _ us hl => match us, hl with | [_], _ => rfl, m_Lmultiple := PySem.W.mg_of X G a_Lmultiple, F_Lmultiple := fun_mk (st := s_Lmultiple) l_Lmultiple c_Lmultiple k_Lmultiple, k_Lmultiple := k_Lmultiple, b_Lmultiple := (fun_mk (st := s_Lmultiple) l_Lmultiple c_Lmultiple k_Lmultiple).binds (ps := ["_law_numbers"]) fun _ _ _ _ _ _ us hl => match us, hl with | [_], _ => rfl, m_Lreturn := PySem.W.mg_of X G a_Lreturn, F_Lreturn := fun_mk (st := s_Lreturn) l_Lreturn c_Lreturn k_Lreturn, k_Lreturn := k_Lreturn, b_Lreturn := (fun_mk (st := s_Lreturn) l_Lreturn c_Lreturn k_Lreturn).binds (ps := ["_law_call", "_law_files", "_law_rows"]) fun _ _ _ _ _ _ us hl => match us, hl with | [_, _, _], _ => rfl, m_law := PySem.W.mg_of X G a_law, F_law := fun_mk (st := s_law) l_law c_law k_law, k_law := k_law, b_law := (fun_mk (st := s_law) l_law c_law k_law).binds (ps := ["_law_script"]) fun _ _ _ _ _ _ us hl => match us, hl with | [_], _ => rfl, n_len := PySem.W.mg_none_of X G z_len, n_abs := PySem.W.mg_none_of X G z_abs, n_int := PySem.W.mg_none_of X G z_int, n_range := PySem.W.mg_none_of X G z_range, n_repr := PySem.W.mg_none_of X G z_repr }
  exact ⟨_, fun s v => .of_eq rfl, fun base _ _ => ok_law T⟩
theorem walk {l : PySem.W.OpenLaw} {q : Program} {loose : List Str} {XP : (Str → Option Value) → Heap → Prop} {YP : World → Heap → Prop} {d : DefRec} {K : Params → PySem.W.Frag} (hn : l.most = some 63) (hdf : d.params.defaults = [])
    (hY : ∀ (w : World) (h : Heap), YP w h → (K w.params).In h)
    (F : ∀ (w : World) (mg : Str → Option Value) (fa : Addr) (h : Heap), (K w.params).In h → h.Ns mainGlobals mg → mg d.name = some (.ref fa) →
      ∃ fd : FuncData, (∀ (s : Shared) (u : Value), BindsTo s fd ⟨[u], []⟩ [("_law_script", u)]) ∧ ∀ base : Heap, (K w.params).In base → base.Ns mainGlobals mg → Ow.FnG l.prog w (K w.params) mg base CX0 6 fa fd ["_law_script"] (sp_law (K w.params))) :
    PySem.W.WalkO q loose XP YP l.row.toRowW d [] (fun f vs => PySem.call f vs) :=
  Ow.walk_G (n := 63) (k := 6) (x := "_law_script") (sp := fun K => sp_law K) hn (by decide) hdf ⟨rfl, by decide, by decide⟩ hY F (fun K H a ns hl hS => law_start hl hS)
end My
open PySem PySem.W PyProof.Rows in
set_option maxRecDepth 100000 in
set_option maxHeartbeats 0 in
theorem PySem.Challenge.cw_pupilpairs_k85_returns_of_halved_lines_holds : PySem.Challenge.rw_pupilpairs_k85_returns_of_halved_lines.Holds := by
  w_on; o_law; k_head; (case hw => w_witness2)
  k_fill
  refine My.walk (l := PySem.Challenge.rw_pupilpairs_k85_returns_of_halved_lines) rfl rfl (fun w h Y => PySem.W.kIn_of Y) ?F
  case F =>
    intro w mg fa h KX G hmg
    refine' My.all_mk KX G hmg ?a_common_divisor ?l_common_divisor ?c_common_divisor ?k_common_divisor ?a_inverse ?l_inverse ?c_inverse ?k_inverse ?a_odd_of ?l_odd_of ?c_odd_of ?k_odd_of ?a_power ?l_power ?c_power ?k_power ?a_order_paper ?l_order_paper ?c_order_paper ?k_order_paper ?a_halve_return ?l_halve_return ?c_halve_return ?k_halve_return ?a_others_return ?l_others_return ?c_others_return ?k_others_return ?a_has_order ?l_has_order ?c_has_order ?k_has_order ?a_totient ?l_totient ?c_totient ?k_totient ?a_primes_of ?l_primes_of ?c_primes_of ?k_primes_of ?a_Lbag ?l_Lbag ?c_Lbag ?k_Lbag ?a_Ltake ?l_Ltake ?c_Ltake ?k_Ltake ?a_Lone ?l_Lone ?c_Lone ?k_Lone ?a_Lalike ?l_Lalike ?c_Lalike ?k_Lalike ?a_Lopen ?l_Lopen ?c_Lopen ?k_Lopen ?a_Lgoes ?l_Lgoes ?c_Lgoes ?k_Lgoes ?a_Lundo ?l_Lundo ?c_Lundo ?k_Lundo ?a_Lled ?l_Lled ?c_Lled ?k_Lled ?a_Lrounds ?l_Lrounds ?c_Lrounds ?k_Lrounds ?a_Ldivisor ?l_Ldivisor ?c_Ldivisor ?k_Ldivisor ?a_Lprimes ?l_Lprimes ?c_Lprimes ?k_Lprimes ?a_Lis_prime ?l_Lis_prime ?c_Lis_prime ?k_Lis_prime ?a_Lmultiple ?l_Lmultiple ?c_Lmultiple ?k_Lmultiple ?a_Lreturn ?l_Lreturn ?c_Lreturn ?k_Lreturn ?a_law ?l_law ?c_law ?k_law ?z_len ?z_abs ?z_int ?z_range ?z_repr
    (case a_common_divisor => k_is)
    (case l_common_divisor => k_is)
    (case c_common_divisor => k_is)
    (case k_common_divisor => k_is)
    (case a_inverse => k_is)
    (case l_inverse => k_is)
    (case c_inverse => k_is)
    (case k_inverse => k_is)
    (case a_odd_of => k_is)
    (case l_odd_of => k_is)
    (case c_odd_of => k_is)
    (case k_odd_of => k_is)
    (case a_power => k_is)
    (case l_power => k_is)
    (case c_power => k_is)
    (case k_power => k_is)
    (case a_order_paper => k_is)
    (case l_order_paper => k_is)
    (case c_order_paper => k_is)
    (case k_order_paper => k_is)
    (case a_halve_return => k_is)
    (case l_halve_return => k_is)
    (case c_halve_return => k_is)
    (case k_halve_return => k_is)
    (case a_others_return => k_is)
    (case l_others_return => k_is)
    (case c_others_return => k_is)
    (case k_others_return => k_is)
    (case a_has_order => k_is)
    (case l_has_order => k_is)
    (case c_has_order => k_is)
    (case k_has_order => k_is)
    (case a_totient => k_is)
    (case l_totient => k_is)
    (case c_totient => k_is)
    (case k_totient => k_is)
    (case a_primes_of => k_is)
    (case l_primes_of => k_is)
    (case c_primes_of => k_is)
    (case k_primes_of => k_is)
    (case a_Lbag => k_is)
    (case l_Lbag => k_is)
    (case c_Lbag => k_is)
    (case k_Lbag => k_is)
    (case a_Ltake => k_is)
    (case l_Ltake => k_is)
    (case c_Ltake => k_is)
    (case k_Ltake => k_is)
    (case a_Lone => k_is)
    (case l_Lone => k_is)
    (case c_Lone => k_is)
    (case k_Lone => k_is)
    (case a_Lalike => k_is)
    (case l_Lalike => k_is)
    (case c_Lalike => k_is)
    (case k_Lalike => k_is)
    (case a_Lopen => k_is)
    (case l_Lopen => k_is)
    (case c_Lopen => k_is)
    (case k_Lopen => k_is)
    (case a_Lgoes => k_is)
    (case l_Lgoes => k_is)
    (case c_Lgoes => k_is)
    (case k_Lgoes => k_is)
    (case a_Lundo => k_is)
    (case l_Lundo => k_is)
    (case c_Lundo => k_is)
    (case k_Lundo => k_is)
    (case a_Lled => k_is)
    (case l_Lled => k_is)
    (case c_Lled => k_is)
    (case k_Lled => k_is)
    (case a_Lrounds => k_is)
    (case l_Lrounds => k_is)
    (case c_Lrounds => k_is)
    (case k_Lrounds => k_is)
    (case a_Ldivisor => k_is)
    (case l_Ldivisor => k_is)
    (case c_Ldivisor => k_is)
    (case k_Ldivisor => k_is)
    (case a_Lprimes => k_is)
    (case l_Lprimes => k_is)
    (case c_Lprimes => k_is)
    (case k_Lprimes => k_is)
    (case a_Lis_prime => k_is)
    (case l_Lis_prime => k_is)
    (case c_Lis_prime => k_is)
    (case k_Lis_prime => k_is)
    (case a_Lmultiple => k_is)
    (case l_Lmultiple => k_is)
    (case c_Lmultiple => k_is)
    (case k_Lmultiple => k_is)
    (case a_Lreturn => k_is)
    (case l_Lreturn => k_is)
    (case c_Lreturn => k_is)
    (case k_Lreturn => k_is)
    (case a_law => k_is)
    (case l_law => k_is)
    (case c_law => k_is)
    (case k_law => k_is)
    (case z_len => k_is)
    (case z_abs => k_is)
    (case z_int => k_is)
    (case z_range => k_is)
    (case z_repr => k_is)


