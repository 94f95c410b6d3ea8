import PyProof.Rows.All
import Wide.All
import OpenK.AllK
import Wide.FinOn
import HandS.ForMost
import HandS.ForExc
import HandS.Evl
import HandS.Lambda
import HandS.ExcInit
import HandS.ExcValue
import HandS.Codes
import HandS.IsInst
import HandS.More
import HandS.StrMore
import HandS.Zip
import HandS.Walk
import HandS.Defaults
import HandS.Conv
import KE.BitLaws
import HandS.TupLe
import KE.KIntText
import PyProof.EqKinds
import HandS.MakeKwOnly
import HandS.Exc
import HandS.ExcField
import HandS.ExcIs
import KE.KExcIs
import HandS.NamedTupSort
import PyProof.InstEq
import KE.KCallOwn
import HandS.ClsMeth
import HandS.CallLocal
import HandS.ExcCtx
import HandS.HotCalls
import HandS.SuiteRaise
import HandS.RaiseFrom
import HandS.ExcInitHot
import HandS.EndTab
import HandS.DictComp
import HandS.Strs
import KE.GoesEnumKw
import KE.GoesZip
import HandS.FStr
import HandS.Star
import PyProof.Rows.CallKwBuiltin
import KE.DataEq
import OpenK.KMeth
import HandS.Small
import HandS.TupAny
import HandS.Style
import HandS.Property
import HandS.Flow
import KE.KExcInit
import KE.KRevSl
import KE.GoesRaise
import HandS.Deep
import PyProof.ListStr
import PySem.Challenge.RW_sentparts_k13_texts_of_no_table
set_option Elab.async false
set_option linter.all false
set_option maxRecDepth 100000
set_option maxHeartbeats 3999000
/-! DL, part A: data, what stands for it in the heap, the states -/
namespace DL
open L2 PySem
open PySem.Spec PyProof.Rows

/-- a datum -/
inductive D where
  | non | bl (b : Bool) | int (i : Int) | str (x : Str) | byt (b : Array UInt8) | ty (n : String)
  | own (a : Addr) | box
  | lst (ds : List D) | tup (ds : List D) | dic (kvs : List (Key × D)) | ins (C : Addr) (fs : List (Str × D))
  /-- a list that is only read: the script -/
  | scr (ds : List D)
  /-- a caught exception: where it is, where its dict is, its attributes -/
  | exc (a d : Addr) (fds : List (Str × D))
  /-- anything -/
  | any
  /-- what the later laws draw from: a list of a list of numbers and a number, both changed by the drawing alone -/
  | deal
  /-- .. its list of numbers -/
  | nums

/-- kinds of boxes: three numbers; numbers; a list of numbers at b and a number -/
inductive BK where
  | three | nums | pair (b : Addr)
def BkOk (k : BK) (o : Option HO) : Prop := match k with
  | .three => ∃ g s c : Int, o = some (.lst [.int g, .int s, .int c])
  | .nums => ∃ xs : List Int, (∀ x ∈ xs, 0 ≤ x) ∧ xs.length ≤ 100 ∧ o = some (.lst (xs.map .int))
  | .pair b => ∃ v : Int, 0 ≤ v ∧ o = some (.lst [.ref b, .int v])
theorem BkOk.some {k : BK} {o : Option HO} (h : BkOk k o) : ∃ u, o = some u := by
  cases k with
  | three => obtain ⟨_, _, _, e⟩ := h; exact ⟨_, e⟩
  | nums => obtain ⟨_, _, _, e⟩ := h; exact ⟨_, e⟩
  | pair b => obtain ⟨_, _, e⟩ := h; exact ⟨_, e⟩
/-- what is known for good: objects that stay, and the boxes -/
structure Lg where
  hp : Hp
  bx : Addr → Option BK
structure Lg.le (L L' : Lg) : Prop where
  hp : ∀ a o, L.hp a = some o → L'.hp a = some o
  bx : ∀ a k, L.bx a = some k → L'.bx a = some k
theorem Lg.le.refl (L : Lg) : L.le L := ⟨fun _ _ h => h, fun _ _ h => h⟩
theorem Lg.le.trans {L L1 L2 : Lg} (a : L.le L1) (b : L1.le L2) : L.le L2 := ⟨fun x o h => b.hp x o (a.hp x o h), fun x k h => b.bx x k (a.bx x k h)⟩

mutual
inductive Is (K : PySem.W.Frag) (L : Lg) : V → D → Prop
  | non : Is K L .non .non
  | bl (b : Bool) : Is K L (.bl b) (.bl b)
  | int (i : Int) : Is K L (.int i) (.int i)
  | str (x : Str) : Is K L (.str x) (.str x)
  | byt (b : Array UInt8) : Is K L (.byt b) (.byt b)
  | ty (n : String) : Is K L (.ty n) (.ty n)
  | own (a : Addr) : Is K L (.ref a) (.own a)
  | box {a : Addr} : L.bx a = some .three → Is K L (.ref a) .box
  | deal {a b : Addr} : L.bx a = some (.pair b) → L.bx b = some .nums → Is K L (.ref a) .deal
  | nums {a : Addr} : L.bx a = some .nums → Is K L (.ref a) .nums
  | lst {a : Addr} {vs : List V} {ds : List D} : L.hp a = some (.lst vs) → IsL K L vs ds → Is K L (.ref a) (.lst ds)
  | scr {a : Addr} {vs : List V} {ds : List D} : SqL K L.hp a vs → IsL K L vs ds → Is K L (.ref a) (.scr ds)
  | tup {a : Addr} {vs : List V} {ds : List D} : SqT K L.hp a vs → IsL K L vs ds → Is K L (.ref a) (.tup ds)
  | dic {a : Addr} {kvs : List (Key × V)} {kds : List (Key × D)} : L.hp a = some (.dK kvs) → kvs.map (·.1) = kds.map (·.1) → IsL K L (kvs.map (·.2)) (kds.map (·.2)) → Is K L (.ref a) (.dic kds)
  | exc {a d : Addr} {fs : List (Str × V)} {fds : List (Str × D)} : L.hp d = some (.xd fs) → fs.map (·.1) = fds.map (·.1) → IsL K L (fs.map (·.2)) (fds.map (·.2)) → Is K L (.ref a) (.exc a d fds)
  | any (a : Addr) : Is K L (.ref a) .any
  | ins {a C dx : Addr} {fs : List (Str × V)} {fds : List (Str × D)} : L.hp a = some (.ins C dx fs) → fs.map (·.1) = fds.map (·.1) → IsL K L (fs.map (·.2)) (fds.map (·.2)) → Is K L (.ref a) (.ins C fds)
inductive IsL (K : PySem.W.Frag) (L : Lg) : List V → List D → Prop
  | nil : IsL K L [] []
  | cons {v : V} {d : D} {vs : List V} {ds : List D} : Is K L v d → IsL K L vs ds → IsL K L (v :: vs) (d :: ds)
end

theorem le_rd {L L' : Lg} {a : Addr} {u : HO} (e : L.le L') (h : Rd L.hp a u) : Rd L'.hp a u := by
  rcases h with h | ⟨o, h⟩
  · exact .inl (e.hp _ _ h)
  · exact .inr ⟨o, e.hp _ _ h⟩
theorem le_sq {K : PySem.W.Frag} {L L' : Lg} {a : Addr} {vs : List V} (e : L.le L') (h : SqL K L.hp a vs) : SqL K L'.hp a vs := by
  rcases h with h | h
  · exact .inl (le_rd e h)
  · exact .inr h
theorem le_st {K : PySem.W.Frag} {L L' : Lg} {a : Addr} {vs : List V} (e : L.le L') (h : SqT K L.hp a vs) : SqT K L'.hp a vs := by
  rcases h with h | h
  · exact .inl (le_rd e h)
  · exact .inr h
section
variable {K : PySem.W.Frag} {L L' : Lg}
mutual
theorem Is.mono (e : L.le L') : ∀ {v : V} {d : D}, Is K L v d → Is K L' v d
  | _, _, .non => .non
  | _, _, .bl b => .bl b
  | _, _, .int i => .int i
  | _, _, .str x => .str x
  | _, _, .byt b => .byt b
  | _, _, .ty n => .ty n
  | _, _, .own a => .own a
  | _, _, .box h => .box (e.bx _ _ h)
  | _, _, .deal h g => .deal (e.bx _ _ h) (e.bx _ _ g)
  | _, _, .nums h => .nums (e.bx _ _ h)
  | _, _, .lst h t => .lst (e.hp _ _ h) (IsL.mono e t)
  | _, _, .scr h t => .scr (le_sq e h) (IsL.mono e t)
  | _, _, .tup h t => .tup (le_st e h) (IsL.mono e t)
  | _, _, .dic h k t => .dic (e.hp _ _ h) k (IsL.mono e t)
  | _, _, .ins h k t => .ins (e.hp _ _ h) k (IsL.mono e t)
  | _, _, .exc h k t => .exc (e.hp _ _ h) k (IsL.mono e t)
  | _, _, .any a => .any a
theorem IsL.mono (e : L.le L') : ∀ {vs : List V} {ds : List D}, IsL K L vs ds → IsL K L' vs ds
  | _, _, .nil => .nil
  | _, _, .cons h t => .cons (Is.mono e h) (IsL.mono e t)
end
theorem IsL.length : ∀ {vs : List V} {ds : List D}, IsL K L vs ds → vs.length = ds.length
  | _, _, .nil => rfl
  | _, _, .cons _ t => congrArg (· + 1) (IsL.length t)
theorem IsL.get : ∀ {vs : List V} {ds : List D} {i : Nat} {d : D}, IsL K L vs ds → ds[i]? = some d → ∃ v, vs[i]? = some v ∧ Is K L v d
  | _, _, _, _, .nil,
        e => by simp at e
  | _, _, 0, _, .cons h _, e => by simp at e; subst e; exact ⟨_, rfl, h⟩
  | _, _, i + 1, d, .cons _ t, e => by
    obtain ⟨v, h1, h2⟩ := IsL.get (i := i) (d := d) t (by simpa using e)
    exact ⟨v, by simpa using h1, h2⟩
theorem IsL.getV : ∀ {vs : List V} {ds : List D} {i : Nat} {v : V}, IsL K L vs ds → vs[i]? = some v → ∃ d, ds[i]? = some d ∧ Is K L v d
  | _, _, _, _, .nil,
        e => by simp at e
  | _, _, 0, _, .cons h _, e => by simp at e; subst e; exact ⟨_, rfl, h⟩
  | _, _, i + 1, d, .cons _ t, e => by
    obtain ⟨v, h1, h2⟩ := IsL.getV (i := i) (v := d) t (by simpa using e)
    exact ⟨v, by simpa using h1, h2⟩
theorem IsL.append : ∀ {vs us : List V} {ds es : List D}, IsL K L vs ds → IsL K L us es → IsL K L (vs ++ us) (ds ++ es)
  | _, _, _, _, .nil, s => s
  | _, _, _, _, .cons h t, s => .cons h (IsL.append t s)
theorem IsL.set {v : V} {d : D} (h : Is K L v d) : ∀ {vs : List V} {ds : List D} (i : Nat), IsL K L vs ds → IsL K L (vs.set i v) (ds.set i d)
  | _, _, _, .nil => .nil
  | _, _, 0, .cons _ t => .cons h t
  | _, _, i + 1, .cons q t => .cons q (IsL.set h i t)
theorem IsL.take : ∀ {vs : List V} {ds : List D} (n : Nat), IsL K L vs ds → IsL K L (vs.take n) (ds.take n)
  | _, _, 0, _ => .nil
  | _, _, _ + 1, .nil => .nil
  | _, _, n + 1, .cons h t => .cons h (IsL.take n t)
theorem IsL.drop : ∀ {vs : List V} {ds : List D} (n : Nat), IsL K L vs ds → IsL K L (vs.drop n) (ds.drop n)
  | _, _, 0, h => h
  | _, _, _ + 1, .nil => .nil
  | _, _, n + 1, .cons _ t => IsL.drop n t
theorem IsL.eraseIdx : ∀ {vs : List V} {ds : List D} (n : Nat), IsL K L vs ds → IsL K L (vs.eraseIdx n) (ds.eraseIdx n)
  | _, _, _, .nil => .nil
  | _, _, 0, .cons _ t => t
  | _, _, n + 1, .cons h t => .cons h (IsL.eraseIdx n t)
/-- flat data are their own values -/
theorem Is.int' {v : V} {i : Int} (h : Is K L v (.int i)) : v = .int i := by cases h; rfl
theorem Is.bl' {v : V} {i : Bool} (h : Is K L v (.bl i)) : v = .bl i := by cases h; rfl
theorem Is.str' {v : V} {i : Str} (h : Is K L v (.str i)) : v = .str i := by cases h; rfl
theorem Is.non' {v : V} (h : Is K L v .non) : v = .non := by cases h; rfl
theorem Is.own' {v : V} {a : Addr} (h : Is K L v (.own a)) : v = .ref a := by cases h; rfl
theorem Is.ty' {v : V} {n : String} (h : Is K L v (.ty n)) : v = .ty n := by cases h; rfl
theorem Is.scr' {v : V} {ds : List D} (h : Is K L v (.scr ds)) : ∃ a vs, v = .ref a ∧ SqL K L.hp a vs ∧ IsL K L vs ds := by cases h; exact ⟨_, _, rfl, by assumption, by assumption⟩
theorem Is.lst' {v : V} {ds : List D} (h : Is K L v (.lst ds)) : ∃ a vs, v = .ref a ∧ L.hp a = some (.lst vs) ∧ IsL K L vs ds := by cases h; exact ⟨_, _, rfl, by assumption, by assumption⟩
theorem Is.tup' {v : V} {ds : List D} (h : Is K L v (.tup ds)) : ∃ a vs, v = .ref a ∧ SqT K L.hp a vs ∧ IsL K L vs ds := by cases h; exact ⟨_, _, rfl, by assumption, by assumption⟩
theorem Is.dic' {v : V} {kds : List (Key × D)} (h : Is K L v (.dic kds)) : ∃ a kvs, v = .ref a ∧ L.hp a = some (.dK kvs) ∧ kvs.map (·.1) = kds.map (·.1) ∧ IsL K L (kvs.map (·.2)) (kds.map (·.2)) := by
  cases h; exact ⟨_, _, rfl, by assumption, by assumption, by assumption⟩
theorem Is.ins' {v : V} {C : Addr} {fds : List (Str × D)} (h : Is K L v (.ins C fds)) : ∃ a dx fs, v = .ref a ∧ L.hp a = some (.ins C dx fs) ∧ fs.map (·.1) = fds.map (·.1) ∧ IsL K L (fs.map (·.2)) (fds.map (·.2)) := by
  cases h; exact ⟨_, _, _, rfl, by assumption, by assumption, by assumption⟩
theorem Is.exc' {v : V} {a d : Addr} {fds : List (Str × D)} (h : Is K L v (.exc a d fds)) : ∃ fs, v = .ref a ∧ L.hp d = some (.xd fs) ∧ fs.map (·.1) = fds.map (·.1) ∧ IsL K L (fs.map (·.2)) (fds.map (·.2)) := by
  cases h; exact ⟨_, rfl, by assumption, by assumption, by assumption⟩
theorem Is.deal' {v : V} (h : Is K L v .deal) : ∃ a b, v = .ref a ∧ L.bx a = some (.pair b) ∧ L.bx b = some .nums := by
  cases h with
  | deal h g => exact ⟨_, _, rfl, h, g⟩
theorem Is.nums' {v : V} (h : Is K L v .nums) : ∃ a, v = .ref a ∧ L.bx a = some .nums := by cases h; exact ⟨_, rfl, by assumption⟩
theorem Is.box' {v : V} (h : Is K L v .box) : ∃ a, v = .ref a ∧ L.bx a = some .three := by cases h; exact ⟨_, rfl, by assumption⟩
end

/-! ### pairs with keys -/
section
variable {κ : Type} [DecidableEq κ] {K : PySem.W.Frag} {L : Lg}
def valD (kds : List (κ × D)) (k : κ) : Option D := (kds.find? fun kv => decide (kv.1 = k)).map (·.2)
theorem kv_val : ∀ {kvs : List (κ × V)} {kds : List (κ × D)}, kvs.map (·.1) = kds.map (·.1) → IsL K L (kvs.map (·.2)) (kds.map (·.2)) → ∀ k,
    (∀ d, valD kds k = some d → ∃ v, (kvs.find? fun kv => decide (kv.1 = k)).map (·.2) = some v ∧ Is K L v d) ∧ (valD kds k = none → (kvs.find? fun kv => decide (kv.1 = k)).map (·.2) = none)
  | [], [], _, _, k => ⟨fun d e => by simp [valD] at e, fun _ => rfl⟩
  | (k1, v) :: kvs, (k2, d) :: kds, e, h, k => by
    simp only [List.map_cons,
        List.cons.injEq] at e
    obtain ⟨e1, e2⟩ := e
    subst e1
    rw [List.map_cons,
        List.map_cons] at h
    cases h with
    | cons h1 h2 =>
      by_cases c : k1 = k
      · subst c
        refine ⟨fun d' q => ?_, fun q => ?_⟩
        · have : d = d' := by simpa [valD] using q
          subst this
          exact ⟨v, by simp, h1⟩
        · simp [valD] at q
      · have ih := kv_val e2 h2 k
        refine ⟨fun d' q => ?_, fun q => ?_⟩
        · have q' : valD kds k = some d' := by simpa [valD, c] using q
          obtain ⟨v', a1, a2⟩ := ih.1 d' q'
          exact ⟨v', by simpa [c] using a1, a2⟩
        · have q' : valD kds k = none := by simpa [valD, c] using q
          simpa [c] using ih.2 q'
  | [], _ :: _, e, _, _ => by simp at e
  | _ :: _, [], e, _, _ => by simp at e
def putD (k : κ) (d : D) : List (κ × D) → List (κ × D)
  | [] => [(k, d)]
  | (g, x) :: r => if g = k then (k, d) :: r else (g, x) :: putD k d r
end

/-! ### owned things: they may change -/
inductive OD where
  | lst (ds : List D) | dic (kvs : List (Key × D)) | ins (C : Addr) (fs : List (Str × D))
  /-- a table of code objects of the name q: it grows -/
  | tab (q : Str)
  /-- an exception: its class, its dict -/
  | xcp (C : Addr) (d : Option Addr)
  /-- an object told by the hand layer's word for it alone -/
  | opq (φ : Heap → Prop)
abbrev Ow := Addr → Option OD
def put (O : Ow) (a : Addr) (o : OD) : Ow := fun b => if b = a then some o else O b
def del (O : Ow) (a : Addr) : Ow := fun b => if b = a then none else O b
theorem put_same {O : Ow} {a : Addr} {o : OD} : put O a o a = some o := if_pos rfl
theorem put_ne {O : Ow} {a b : Addr} {o : OD} (h : b ≠ a) : put O a o b = O b := if_neg h
theorem put_put {O : Ow} {a : Addr} {o u : OD} : put (put O a o) a u = put O a u := by
  funext b; unfold put; split <;> rfl
theorem del_put {O : Ow} {a : Addr} {o : OD} (h : O a = none) : del (put O a o) a = O := by
  funext b; unfold del put; split
  · rename_i e; rw [e, h]
  · rfl
theorem put_back {O : Ow} {a : Addr} {o : OD} (h : O a = some o) : put O a o = O := by
  funext b; unfold put; split
  · rename_i e; rw [e, h]
  · rfl

/-- at a: an exception of the class at C -/
def XO (C : Addr) (d : Option Addr) (a : Addr) : HO := .ext fun h => ∃ oe : Obj, h.get? a = some oe ∧ Zc (.ref C) d oe ∧ ∃ vs, oe.data = .fields vs
def HasO (K : PySem.W.Frag) (L : Lg) (H : Hp) (a : Addr) : OD → Prop
  | .lst ds => ∃ vs, H a = some (.lst vs) ∧ IsL K L vs ds
  | .dic kds => ∃ kvs, H a = some (.dK kvs) ∧ kvs.map (·.1) = kds.map (·.1) ∧ IsL K L (kvs.map (·.2)) (kds.map (·.2))
  | .ins C fds => ∃ dx fs, H a = some (.ins C dx fs) ∧ fs.map (·.1) = fds.map (·.1) ∧ IsL K L (fs.map (·.2)) (fds.map (·.2))
  | .tab q => ∃ ps : Array Value, H a = some (.tbl ps) ∧ TriplesOk ps.toList ∧ ∀ (pos : Pos) (cv : Value), codeAmong pos ps.toList = some cv → ∃ c, cv = .ref c ∧ L.hp c = some (LamX.CodeO c q)
  | .xcp C d => H a = some (XO C d a)
  | .opq φ => H a = some (.ext φ)
theorem HasO.mono {K : PySem.W.Frag} {L L' : Lg} {H H' : Hp} {a : Addr} {o : OD} (e : L.le L') (h : HasO K L H a o) (hh : H' a = H a) : HasO K L' H' a o := by
  cases o with
  | lst ds => obtain ⟨vs, h1, h2⟩ := h; exact ⟨vs, hh.trans h1, h2.mono e⟩
  | dic kds => obtain ⟨vs, h1, h2, h3⟩ := h; exact ⟨vs, hh.trans h1, h2, h3.mono e⟩
  | ins C fds => obtain ⟨dx, fs, h1, h2, h3⟩ := h; exact ⟨dx, fs, hh.trans h1, h2, h3.mono e⟩
  | tab q => obtain ⟨ps, h1, h2, h3⟩ := h; exact ⟨ps, hh.trans h1, h2, fun pos cv hc => by
      obtain ⟨c, e1,
          e2⟩ := h3 pos cv hc
      exact ⟨c, e1, e.hp _ _ e2⟩⟩
  | xcp C d => exact hh.trans h
  | opq u => exact hh.trans h
theorem HasO.some {K : PySem.W.Frag} {L : Lg} {H : Hp} {a : Addr} {o : OD} (h : HasO K L H a o) : ∃ u, H a = some u := by
  cases o with
  | lst ds => obtain ⟨vs, h1, _⟩ := h; exact ⟨_, h1⟩
  | dic kds => obtain ⟨vs, h1, _⟩ := h; exact ⟨_, h1⟩
  | ins C fds => obtain ⟨dx, fs, h1, _⟩ := h; exact ⟨_, h1⟩
  | tab q => obtain ⟨ps, h1, _⟩ := h; exact ⟨_, h1⟩
  | xcp C d => exact ⟨_, h⟩
  | opq u => exact ⟨_, h⟩

structure R (K : PySem.W.Frag) (L : Lg) (O : Ow) (H : Hp) : Prop where
  hp : ∀ a o, L.hp a = some o → H a = some o
  bx : ∀ a k, L.bx a = some k → L.hp a = none ∧ O a = none ∧ BkOk k (H a)
  ow : ∀ a od, O a = some od → L.hp a = none ∧ HasO K L H a od
section
variable {K : PySem.W.Frag} {L : Lg} {O : Ow} {H : Hp} {p : Addr} {o : HO}
theorem R.start (H : Hp) : R K ⟨H, fun _ => none⟩ (fun _ => none) H := ⟨fun _ _ h => h, fun _ _ h => (by cases h), fun _ _ h => by cases h⟩
theorem R.free (r : R K L O H) (h : H p = none) : L.hp p = none ∧ O p = none ∧ L.bx p = none := by
  refine ⟨?_, ?_, ?_⟩
  · cases q : L.hp p with
    | none => rfl
    | some u => rw [r.hp _ _ q] at h; cases h
  · cases q : O p with
    | none => rfl
    | some u => obtain ⟨_, z⟩ := r.ow _ _ q; obtain ⟨u, e⟩ := z.some; rw [e] at h; cases h
  · cases q : L.bx p with
    | none => rfl
    | some k =>
      obtain ⟨_, _, z⟩ := r.bx _ _ q
      obtain ⟨u, e⟩ := z.some
      rw [e] at h
      cases h
def Lg.add (L : Lg) (p : Addr) (o : HO) : Lg := ⟨upd L.hp p o, L.bx⟩
theorem Lg.le_add (h : L.hp p = none) : L.le (L.add p o) := ⟨fun a u e => by
  show upd L.hp p o a = some u
  rw [upd_ne (ne_of_none e h)]; exact e, fun _ _ z => z⟩
/-- a new thing that stays -/
theorem R.new (r : R K L O H) (h : H p = none) : R K (L.add p o) O (upd H p o) := by
  obtain ⟨f1, f2, f3⟩ := r.free h
  have le : L.le (L.add p o) := Lg.le_add f1
  refine ⟨fun a u e => ?_, fun a k z => ?_, fun a od e => ?_⟩
  · have e' : upd L.hp p o a = some u := e
    by_cases c : a = p
    · subst c; rw [upd_same] at e' ⊢; exact e'
    · rw [upd_ne c] at e' ⊢; exact r.hp _ _ e'
  · have z' : L.bx a = some k := z
    have c : a ≠ p := fun q => by rw [q, f3] at z'; cases z'
    obtain ⟨h1, h2, h3⟩ := r.bx a k z'
    exact ⟨by show upd L.hp p o a = none; rw [upd_ne c]; exact h1, h2, by rw [upd_ne c]; exact h3⟩
  · have c : a ≠ p := fun q => by rw [q, f2] at e; cases e
    obtain ⟨h1, h2⟩ := r.ow a od e
    exact ⟨by show upd L.hp p o a = none; rw [upd_ne c]; exact h1, h2.mono le (upd_ne c)⟩
/-- a new box -/
def Lg.bk (L : Lg) (p : Addr) (k : BK) : Lg := ⟨L.hp, fun a => if a = p then some k else L.bx a⟩
theorem Lg.le_bk {k : BK} (h : L.bx p = none) : L.le (L.bk p k) := ⟨fun _ _ h => h, fun a k' z => by
  show (if a = p then some k else L.bx a) = some k'
  rw [if_neg (fun q => by rw [q, h] at z; cases z)]
  exact z⟩
theorem Lg.bk_same {k : BK} : (L.bk p k).bx p = some k := if_pos rfl
theorem R.newBk (r : R K L O H) (h : H p = none) {k : BK} (hk : BkOk k (some o)) : R K (L.bk p k) O (upd H p o) := by
  obtain ⟨f1, f2, f3⟩ := r.free h
  have le : L.le (L.bk p k) := Lg.le_bk f3
  refine ⟨fun a u e => ?_, fun a k' z => ?_, fun a od e => ?_⟩
  · have e' : L.hp a = some u := e
    rw [upd_ne (ne_of_none e' f1)]; exact r.hp _ _ e'
  · have z' : (if a = p then some k else L.bx a) = some k' := z
    by_cases q : a = p
    · subst q
      rw [if_pos rfl] at z'
      cases z'
      exact ⟨f1, f2, by rw [upd_same]; exact hk⟩
    · rw [if_neg q] at z'
      obtain ⟨h1, h2, h3⟩ := r.bx a k' z'
      exact ⟨h1, h2, by rw [upd_ne q]; exact h3⟩
  · have c : a ≠ p := fun q => by rw [q, f2] at e; cases e
    obtain ⟨h1, h2⟩ := r.ow a od e
    exact ⟨h1, h2.mono le (upd_ne c)⟩
theorem R.newBox (r : R K L O H) (h : H p = none) (g s c : Int) : R K (L.bk p .three) O (upd H p (.lst [.int g, .int s, .int c])) := r.newBk h ⟨g, s, c, rfl⟩
/-- a box turns -/
theorem R.turnBk (r : R K L O H) {k : BK} (hb : L.bx p = some k) (hk : BkOk k (some o)) : R K L O (upd H p o) := by
  obtain ⟨h1, h2, _⟩ := r.bx p k hb
  refine ⟨fun a u e => ?_, fun a k' z => ?_, fun a od e => ?_⟩
  · rw [upd_ne (ne_of_none e h1)]; exact r.hp _ _ e
  · by_cases q : a = p
    · subst q
      rw [hb] at z
      cases z
      exact ⟨h1, h2, by rw [upd_same]; exact hk⟩
    · obtain ⟨k1, k2, k3⟩ := r.bx a k' z
      exact ⟨k1, k2, by rw [upd_ne q]; exact k3⟩
  · have q : a ≠ p := fun q => by rw [q, h2] at e; cases e
    obtain ⟨k1, k2⟩ := r.ow a od e
    exact ⟨k1, k2.mono (.refl L) (upd_ne q)⟩
theorem R.turn (r : R K L O H) (hb : L.bx p = some .three) (g s c : Int) : R K L O (upd H p (.lst [.int g, .int s, .int c])) := r.turnBk hb ⟨g, s, c, rfl⟩
/-- a new thing that is owned -/
theorem R.newOwn (r : R K L O H) (h : H p = none) {od : OD} (hn : HasO K L (upd H p o) p od) : R K L (put O p od) (upd H p o) := by
  obtain ⟨f1, f2, f3⟩ := r.free h
  refine ⟨fun a u e => ?_, fun a k z => ?_, fun a u e => ?_⟩
  · rw [upd_ne (ne_of_none e f1)]; exact r.hp _ _ e
  · have c : a ≠ p := fun q => by rw [q, f3] at z; cases z
    obtain ⟨h1, h2, h3⟩ := r.bx a k z
    exact ⟨h1, by rw [put_ne c]; exact h2, by rw [upd_ne c]; exact h3⟩
  · by_cases c : a = p
    · subst c; rw [put_same] at e; cases e; exact ⟨f1, hn⟩
    · rw [put_ne c] at e
      obtain ⟨h1, h2⟩ := r.ow a u e
      exact ⟨h1, h2.mono (.refl L) (upd_ne c)⟩
/-- an owned thing changes -/
theorem R.change (r : R K L O H) {od od' : OD} (ho : O p = some od) (hn : HasO K L (upd H p o) p od') : R K L (put O p od') (upd H p o) := by
  obtain ⟨f1, _⟩ := r.ow _ _ ho
  refine ⟨fun a u e => ?_, fun a k z => ?_, fun a u e => ?_⟩
  · rw [upd_ne (ne_of_none e f1)]; exact r.hp _ _ e
  · obtain ⟨h1, h2, h3⟩ := r.bx a k z
    have c : a ≠ p := fun q => by rw [q, ho] at h2; cases h2
    exact ⟨h1, by rw [put_ne c]; exact h2, by rw [upd_ne c]; exact h3⟩
  · by_cases c : a = p
    · subst c; rw [put_same] at e; cases e; exact ⟨f1, hn⟩
    · rw [put_ne c] at e
      obtain ⟨h1, h2⟩ := r.ow a u e
      exact ⟨h1, h2.mono (.refl L) (upd_ne c)⟩
/-- an owned thing is forgotten -/
theorem R.drop (r : R K L O H) (p : Addr) : R K L (del O p) H := by
  refine ⟨r.hp, fun a k z => ?_, fun a u e => ?_⟩
  · obtain ⟨h1, h2, h3⟩ := r.bx a k z
    refine ⟨h1, ?_, h3⟩
    unfold del; split
    · rfl
    · exact h2
  · unfold del at e; split at e
    · cases e
    · exact r.ow a u e
/-- the datum of an owned thing that changes no more -/
def OD.d : OD → D
  | .lst ds => .lst ds
  | .dic kds => .dic kds
  | .ins C fds => .ins C fds
  | .tab _ => .any
  | .xcp _ _ => .any
  | .opq _ => .any
/-- an owned thing changes no more -/
theorem R.freeze (r : R K L O H) {od : OD} (ho : O p = some od) : ∃ L' : Lg, L.le L' ∧ Is K L' (.ref p) od.d ∧ R K L' (del O p) H := by
  obtain ⟨f1, f2⟩ := r.ow _ _ ho
  obtain ⟨o, e⟩ := f2.some
  have le : L.le (L.add p o) := Lg.le_add f1
  have lp : (L.add p o).hp p = some o := upd_same
  refine ⟨L.add p o, le, ?_, fun a u q => ?_, fun a k z => ?_, fun a u q => ?_⟩
  · cases od with
    | lst ds => obtain ⟨vs, h1, h2⟩ := f2; rw [e] at h1; cases h1; exact .lst lp (h2.mono le)
    | dic kds => obtain ⟨vs, h1, h2, h3⟩ := f2; rw [e] at h1; cases h1; exact .dic lp h2 (h3.mono le)
    | ins C fds => obtain ⟨dx, fs, h1, h2, h3⟩ := f2; rw [e] at h1; cases h1; exact .ins lp h2 (h3.mono le)
    | tab q => exact .any _
    | xcp C d => exact .any _
    | opq u => exact .any _
  · have q' : upd L.hp p o a = some u := q
    by_cases c : a = p
    · subst c; rw [upd_same] at q'; cases q'; exact e
    · rw [upd_ne c] at q'; exact r.hp _ _ q'
  · have z' : L.bx a = some k := z
    obtain ⟨h1, h2, h3⟩ := r.bx a k z'
    have c : a ≠ p := fun q => by rw [q, ho] at h2; cases h2
    refine ⟨by show upd L.hp p o a = none; rw [upd_ne c]; exact h1, ?_, h3⟩
    unfold del; rw [if_neg c]; exact h2
  · have c : a ≠ p := fun z => by unfold del at q; rw [if_pos z] at q; cases q
    have q' : O a = some u := by unfold del at q; rw [if_neg c] at q; exact q
    obtain ⟨h1, h2⟩ := r.ow a u q'
    exact ⟨by show upd L.hp p o a = none; rw [upd_ne c]; exact h1, h2.mono le rfl⟩
end

/-! ### the slots -/
abbrev Sg := List (Option D)
structure Sl (K : PySem.W.Frag) (L : Lg) (σ : L2.St) (Γ : Sg) : Prop where
  len : σ.length = Γ.length
  at_ : ∀ (i : Nat) (d : D), Γ[i]? = some (some d) → ∃ v, σ[i]? = some (some v) ∧ Is K L v d
section
variable {K : PySem.W.Frag} {L L' : Lg} {σ : L2.St} {Γ : Sg}
theorem Sl.mono (e : L.le L') (h : Sl K L σ Γ) : Sl K L' σ Γ := ⟨h.len, fun i d q => by
  obtain ⟨v, a, b⟩ := h.at_ i d q
  exact ⟨v, a, b.mono e⟩⟩
theorem Sl.set (h : Sl K L σ Γ) {v : V} {d : D} (q : Is K L v d) (i : Nat) : Sl K L (σ.set i (some v)) (Γ.set i (some d)) := by
  refine ⟨by rw [List.length_set, List.length_set]; exact h.len, fun j e z => ?_⟩
  by_cases c : i = j
  · subst c
    rw [List.getElem?_set_self'] at z
    have hl : i < Γ.length := by
      cases e2 : Γ[i]? with
      | none => rw [e2] at z; cases z
      | some w => exact (List.getElem?_eq_some_iff.mp e2).1
    rw [List.getElem?_eq_getElem hl] at z
    simp at z
    subst z
    refine ⟨v, ?_, q⟩
    rw [List.getElem?_set_self]
    rw [h.len]; exact hl
  · rw [List.getElem?_set_ne c] at z
    obtain ⟨w, a, b⟩ := h.at_ j e z
    exact ⟨w, by rw [List.getElem?_set_ne c]; exact a, b⟩
/-- a slot is forgotten -/
theorem Sl.forget (h : Sl K L σ Γ) (i : Nat) : Sl K L σ (Γ.set i none) := by
  refine ⟨by rw [List.length_set]; exact h.len, fun j e z => ?_⟩
  by_cases c : i = j
  · subst c
    rw [List.getElem?_set_self'] at z
    cases e2 : Γ[i]? with
    | none => rw [e2] at z; cases z
    | some w => rw [e2] at z; simp at z
  · rw [List.getElem?_set_ne c] at z
    exact h.at_ j e z
end
end DL
/-! DL, part B: what an expression, a test, a list of arguments, a statement leads to, over data -/
namespace DL
open L2 PySem
open PySem.Spec PyProof.Rows

/-! ### the widest readings -/
def uE (X : Cx) (e : Expr) : TE := fun σ H Q => ∀ pins s, Inv X pins σ H s → wpAny (model X.prog X.w) X.A (eval e X.env) (EP X pins σ Q) X.xe s
def uT (X : Cx) (e : Expr) : TT := fun σ H Q => ∀ pins s, Inv X pins σ H s → wpAny (model X.prog X.w) X.A (isTrue e X.env (eval e X.env)) (TP X pins σ Q) X.xe s
def uW (X : Cx) (e : Expr) : TT := fun σ H Q => ∀ whole pins s, Inv X pins σ H s → wpAny (model X.prog X.w) X.A (isTrue e X.env whole) (TP X pins σ Q) X.xe s
def uA (X : Cx) (es : List Expr) : TA := fun σ H Q => ∀ pos pins s, Inv X pins σ H s → wpAny (model X.prog X.w) X.A (spliced (backTo pos (starEach es X.env))) (AP X pins σ Q) X.xe s
def uS (X : Cx) (st : Stmt) : TS := fun D σ H => ∀ pins s, Inv X pins σ H s → wpAny (model X.prog X.w) X.A (exec st X.env) (SP X pins D) X.xe s
def uSs (X : Cx) (st : List Stmt) : TS := fun D σ H => ∀ pins s, Inv X pins σ H s → wpAny (model X.prog X.w) X.A (execs st X.env) (SP X pins D) X.xe s
def uO (X : Cx) (f : Value → Value → Sem Value) : R2 := fun x y H Q => ∀ pins s σ v u, Inv X pins σ H s → RelV x v → RelV y u → wpAny (model X.prog X.w) X.A (f v u) (EP X pins σ Q) X.xe s
def uU (X : Cx) (f : Value → Sem Value) : V → Hp → VK → Prop := fun x H Q => ∀ pins s σ v, Inv X pins σ H s → RelV x v → wpAny (model X.prog X.w) X.A (f v) (EP X pins σ Q) X.xe s
def uC (X : Cx) (f : Value) : List V → Hp → VK → Prop := fun xs H Q => ∀ pins s σ us, Inv X pins σ H s → Vals xs us → wpAny (model X.prog X.w) X.A (call f us) (EP X pins σ Q) X.xe s
section
variable {X : Cx}
theorem pu (e : Expr) : PE X e (uE X e) := ⟨fun pins s σ H Q I h => h pins s I⟩
theorem ptu (e : Expr) : PT X e (uT X e) := ⟨fun pins s σ H Q I h => h pins s I⟩
theorem pwu (e : Expr) : PW X e (uW X e) := ⟨fun wh pins s σ H Q I h => h wh pins s I⟩
theorem pau (es : List Expr) : PA X es (uA X es) := ⟨fun pos pins s σ H Q I h => h pos pins s I⟩
theorem psu (st : Stmt) : PS X st (uS X st) := ⟨fun pins s σ H D I h => h pins s I⟩
theorem pssu (st : List Stmt) : PSs X st (uSs X st) := ⟨fun pins s σ H D I h => h pins s I⟩
theorem ou (f : Value → Value → Sem Value) : OpR X f (uO X f) := fun pins s σ H x y v u Q I rx ry h => h pins s σ v u I rx ry
theorem unu (f : Value → Sem Value) : UnR X f (uU X f) := fun pins s σ H x v Q I rx h => h pins s σ v I rx
theorem cu (f : Value) : CallR X f (uC X f) := fun pins s σ H xs us Q I rx h => h pins s σ us I rx
variable {σ : L2.St} {H : Hp}
theorem toE {e : Expr} {t : TE} (h : PE X e t) {Q : VK} (q : t σ H Q) : uE X e σ H Q := fun pins s I => h.run pins s σ H Q I q
theorem toT {e : Expr} {t : TT} (h : PT X e t) {Q} (q : t σ H Q) : uT X e σ H Q := fun pins s I => h.run pins s σ H Q I q
theorem toW {e : Expr} {t : TT} (h : PW X e t) {Q} (q : t σ H Q) : uW X e σ H Q := fun wh pins s I => h.run wh pins s σ H Q I q
theorem toA {es : List Expr} {t : TA} (h : PA X es t) {Q} (q : t σ H Q) : uA X es σ H Q := fun pos pins s I => h.run pos pins s σ H Q I q
theorem toS {st : Stmt} {t : TS} (h : PS X st t) {D} (q : t D σ H) : uS X st D σ H := fun pins s I => h.run pins s σ H D I q
theorem toSs {st : List Stmt} {t : TS} (h : PSs X st t) {D} (q : t D σ H) : uSs X st D σ H := fun pins s I => h.run pins s σ H D I q
theorem toO {f : Value → Value → Sem Value} {r : R2} (h : OpR X f r) {x y : V} {Q : VK} (q : r x y H Q) : uO X f x y H Q := fun pins s σ v u I rx ry => h pins s σ H x y v u Q I rx ry q
theorem toU {f : Value → Sem Value} {r : V → Hp → VK → Prop} (h : UnR X f r) {x : V} {Q : VK} (q : r x H Q) : uU X f x H Q := fun pins s σ v I rx => h pins s σ H x v Q I rx q
theorem toC {f : Value} {r : List V → Hp → VK → Prop} (h : CallR X f r) {xs : List V} {Q : VK} (q : r xs H Q) : uC X f xs H Q := fun pins s σ us I rx => h pins s σ H xs us Q I rx q
end

/-! ### the judgements -/
abbrev KD := D → Ow → Prop
/-- what follows a value, in the heap's words -/
def Fol (K : PySem.W.Frag) (L : Lg) (k : KD) (Q : VK) : Prop := ∀ v d O' L' H', k d O' → L.le L' → Is K L' v d → R K L' O' H' → Q v H'
def FolT (K : PySem.W.Frag) (L : Lg) (k : Bool → Ow → Prop) (Q : Bool → Hp → Prop) : Prop := ∀ b O' L' H', k b O' → L.le L' → R K L' O' H' → Q b H'
def FolA (K : PySem.W.Frag) (L : Lg) (k : List D → Ow → Prop) (Q : List V → Hp → Prop) : Prop := ∀ vs ds O' L' H', k ds O' → L.le L' → IsL K L' vs ds → R K L' O' H' → Q vs H'
/-- behind a statement: what is wanted there -/
structure DE where
  nx : Sg → Ow → Prop
  rt : KD
  bk : Sg → Ow → Prop := fun _ _ => False
  ct : Sg → Ow → Prop := fun _ _ => False
def FolN (K : PySem.W.Frag) (L : Lg) (k : Sg → Ow → Prop) (q : L2.St → Hp → Prop) : Prop := ∀ Γ O' σ L' H', k Γ O' → L.le L' → Sl K L' σ Γ → R K L' O' H' → q σ H'
structure FolS (K : PySem.W.Frag) (L : Lg) (D : DE) (E : Ends) : Prop where
  nx : FolN K L D.nx E.nx
  rt : Fol K L D.rt E.rt
  bk : FolN K L D.bk E.bk
  ct : FolN K L D.ct E.ct
def WE (X : Cx) (e : Expr) (Γ : Sg) (O : Ow) (k : KD) : Prop := ∀ σ L H, Sl X.K L σ Γ → R X.K L O H → ∀ Q, Fol X.K L k Q → uE X e σ H Q
def WT (X : Cx) (e : Expr) (Γ : Sg) (O : Ow) (k : Bool → Ow → Prop) : Prop := ∀ σ L H, Sl X.K L σ Γ → R X.K L O H → ∀ Q, FolT X.K L k Q → uT X e σ H Q
def WW (X : Cx) (e : Expr) (Γ : Sg) (O : Ow) (k : Bool → Ow → Prop) : Prop := ∀ σ L H, Sl X.K L σ Γ → R X.K L O H → ∀ Q, FolT X.K L k Q → uW X e σ H Q
def WA (X : Cx) (es : List Expr) (Γ : Sg) (O : Ow) (k : List D → Ow → Prop) : Prop := ∀ σ L H, Sl X.K L σ Γ → R X.K L O H → ∀ Q, FolA X.K L k Q → uA X es σ H Q
def WS (X : Cx) (st : Stmt) (Γ : Sg) (O : Ow) (D : DE) : Prop := ∀ σ L H, Sl X.K L σ Γ → R X.K L O H → ∀ E, FolS X.K L D E → uS X st E σ H
def WSs (X : Cx) (st : List Stmt) (Γ : Sg) (O : Ow) (D : DE) : Prop := ∀ σ L H, Sl X.K L σ Γ → R X.K L O H → ∀ E, FolS X.K L D E → uSs X st E σ H
def WO (X : Cx) (f : Value → Value → Sem Value) (x y : D) (O : Ow) (k : KD) : Prop := ∀ vx vy L H, Is X.K L vx x → Is X.K L vy y → R X.K L O H → ∀ Q, Fol X.K L k Q → uO X f vx vy H Q
def WU (X : Cx) (f : Value → Sem Value) (x : D) (O : Ow) (k : KD) : Prop := ∀ vx L H, Is X.K L vx x → R X.K L O H → ∀ Q, Fol X.K L k Q → uU X f vx H Q
def WC (X : Cx) (f : Value) (ds : List D) (O : Ow) (k : KD) : Prop := ∀ vs L H, IsL X.K L vs ds → R X.K L O H → ∀ Q, Fol X.K L k Q → uC X f vs H Q

section
variable {K : PySem.W.Frag} {L L' : Lg}
theorem Fol.le {k : KD} {Q : VK} (h : Fol K L k Q) (e : L.le L') : Fol K L' k Q := fun v d O' L2 H' a b c r => h v d O' L2 H' a (e.trans b) c r
theorem FolT.le {k} {Q} (h : FolT K L k Q) (e : L.le L') : FolT K L' k Q := fun v O' L2 H' a b r => h v O' L2 H' a (e.trans b) r
theorem FolA.le {k} {Q} (h : FolA K L k Q) (e : L.le L') : FolA K L' k Q := fun v d O' L2 H' a b c r => h v d O' L2 H' a (e.trans b) c r
theorem FolN.le {k} {Q} (h : FolN K L k Q) (e : L.le L') : FolN K L' k Q := fun v d O' L2 H' a b c r => h v d O' L2 H' a (e.trans b) c r
theorem FolS.le {D : DE} {E : Ends} (h : FolS K L D E) (e : L.le L') : FolS K L' D E := ⟨h.nx.le e, h.rt.le e, h.bk.le e, h.ct.le e⟩
theorem FolS.nxt {D : DE} {E : Ends} (h : FolS K L D E) {n q} (hn : FolN K L n q) : FolS K L { D with nx := n } { E with nx := q } := ⟨hn, h.rt, h.bk, h.ct⟩
end

section
variable {X : Cx} {Γ : Sg} {O : Ow} {k : KD}
theorem WE.imp {e : Expr} {k k' : KD} (h : WE X e Γ O k) (i : ∀ d O', k d O' → k' d O') : WE X e Γ O k' := fun σ L H hs hr Q q => h σ L H hs hr Q fun v d O' L' H' a b c r => q v d O' L' H' (i _ _ a) b c r
theorem WT.imp {e : Expr} {k k'} (h : WT X e Γ O k) (i : ∀ d O', k d O' → k' d O') : WT X e Γ O k' := fun σ L H hs hr Q q => h σ L H hs hr Q fun d O' L' H' a b r => q d O' L' H' (i _ _ a) b r
theorem WA.imp {es : List Expr} {k k'} (h : WA X es Γ O k) (i : ∀ d O', k d O' → k' d O') : WA X es Γ O k' := fun σ L H hs hr Q q => h σ L H hs hr Q fun v d O' L' H' a b c r => q v d O' L' H' (i _ _ a) b c r
theorem WSs.imp {st : List Stmt} {D D' : DE} (h : WSs X st Γ O D) (n : ∀ Γ' O', D.nx Γ' O' → D'.nx Γ' O') (r : ∀ d O', D.rt d O' → D'.rt d O') (b : ∀ Γ' O', D.bk Γ' O' → D'.bk Γ' O') (c : ∀ Γ' O', D.ct Γ' O' → D'.ct Γ' O') : WSs X st Γ O D' :=
  fun σ L H hs hr E q => h σ L H hs hr E ⟨fun _ _ _ _ _ a => q.nx _ _ _ _ _ (n _ _ a), fun _ _ _ _ _ a => q.rt _ _ _ _ _ (r _ _ a), fun _ _ _ _ _ a => q.bk _ _ _ _ _ (b _ _ a), fun _ _ _ _ _ a => q.ct _ _ _ _ _ (c _ _ a)⟩

/-! ### expressions -/
theorem we_int {i j pos} (h : k (.int i) O) : WE X (.Constant (.int i) j pos) Γ O k := fun σ L H hs hr Q q => toE pe_int (q _ _ _ _ _ h (.refl L) (.int i) hr)
theorem we_bl {b j pos} (h : k (.bl b) O) : WE X (.Constant (.bool b) j pos) Γ O k := fun σ L H hs hr Q q => toE pe_bl (q _ _ _ _ _ h (.refl L) (.bl b) hr)
theorem we_non {j pos} (h : k .non O) : WE X (.Constant .none j pos) Γ O k := fun σ L H hs hr Q q => toE pe_non (q _ _ _ _ _ h (.refl L) .non hr)
theorem we_str {x j pos} (h : k (.str x) O) : WE X (.Constant (.str x) j pos) Γ O k := fun σ L H hs hr Q q => toE pe_str (q _ _ _ _ _ h (.refl L) (.str x) hr)
theorem we_byt {x : List UInt8} {j pos} (h : k (.byt x.toArray) O) : WE X (.Constant (.bytes x) j pos) Γ O k := fun σ L H hs hr Q q => toE pe_byt (q _ _ _ _ _ h (.refl L) (.byt _) hr)
/-- the name x is the i-th slot -/
structure Va (X : Cx) (x : Str) (i : Nat) : Prop where
  hN : X.N[i]? = some x
  hv : Vis X.env.scope x
  hd : (x == ("__debug__" : Str)) = false
  hc : (x == ("__classdict__" : Str)) = false
theorem we_var {x : Str} {i : Nat} {d : D} {pos} (hv : Va X x i) (hg : Γ[i]? = some (some d)) (h : k d O) : WE X (.Name x pos) Γ O k := fun σ L H hs hr Q q => by
  obtain ⟨v, e, z⟩ := hs.at_ i d hg
  exact toE (pe_var hv.hN hv.hv hv.hd hv.hc) ⟨v, e, q _ _ _ _ _ h (.refl L) z hr⟩
/-- a name of the module -/
structure Gn (X : Cx) (x : Str) (u : Value) : Prop where
  hg : Gl X x
  hm : X.mg x = some u
  hd : (x == ("__debug__" : Str)) = false
theorem we_glob {x : Str} {u : Value} {d : D} {pos} (g : Gn X x u) (hu : ∃ v, RelV v u ∧ ∀ L, Is X.K L v d) (h : k d O) : WE X (.Name x pos) Γ O k := fun σ L H hs hr Q q => by
  obtain ⟨v, e, z⟩ := hu
  exact toE (pe_glob g.hg g.hm e g.hd) (q _ _ _ _ _ h (.refl L) (z L) hr)
theorem we_bltn {x : Str} {v : V} {u : Value} {d : D} {pos} (hg : Gl X x) (hm : X.mg x = none) (hv : bootBuiltins x = some u) (r : RelV v u) (hn : x ≠ "__name__") (hd : (x == ("__debug__" : Str)) = false) (z : ∀ L, Is X.K L v d) (h : k d O) : WE X (.Name x pos) Γ O k :=
  fun σ L H hs hr Q q => toE (pe_bltn hg hm hv r hn hd) (q _ _ _ _ _ h (.refl L) (z L) hr)
theorem we_bin {op a b pos} (h : WE X a Γ O fun x O1 => WE X b Γ O1 fun y O2 => WO X (binaryOp op) x y O2 k) : WE X (.BinOp a op b pos) Γ O k := fun σ L H hs hr Q q => by
  refine toE (pe_op (ou _) (pu a) (pu b)) ?_
  refine h σ L H hs hr _ fun x dx O1 L1 H1 h1 e1 i1 r1 => ?_
  refine h1 σ L1 H1 (hs.mono e1) r1 _ fun y dy O2 L2 H2 h2 e2 i2 r2 => ?_
  exact h2 x y L2 H2 (i1.mono e2) i2 r2 Q (q.le (e1.trans e2))
theorem we_un {op a pos} (h : WE X a Γ O fun x O1 => WU X (unaryOp op) x O1 k) : WE X (.UnaryOp op a pos) Γ O k := fun σ L H hs hr Q q => by
  refine toE (pe_un (unu _) (pu a)) ?_
  refine h σ L H hs hr _ fun x dx O1 L1 H1 h1 e1 i1 r1 => ?_
  exact h1 x L1 H1 i1 r1 Q (q.le e1)
theorem we_cmp {op a b pos} (hm : behindInMarks op b = false) (h : WE X a Γ O fun x O1 => WE X b Γ O1 fun y O2 => WO X (compareOp op) x y O2 k) : WE X (.Compare a [op] [b] pos) Γ O k := fun σ L H hs hr Q q => by
  refine toE (pe_cmpR (ou _) (pu a) (pu b) hm) ?_
  refine h σ L H hs hr _ fun x dx O1 L1 H1 h1 e1 i1 r1 => ?_
  refine h1 σ L1 H1 (hs.mono e1) r1 _ fun y dy O2 L2 H2 h2 e2 i2 r2 => ?_
  exact h2 x y L2 H2 (i1.mono e2) i2 r2 Q (q.le (e1.trans e2))
theorem we_chain {op op' a b c pos} (hm : lastMarks [op, op'] [b, c] = false) (h : WE X a Γ O fun x O1 => WE X b Γ O1 fun y O2 => WO X (compareOp op) x y O2 fun z O3 => ∃ t, z = .bl t ∧
    (if t = true then WE X c Γ O3 fun w O4 => WO X (compareOp op') y w O4 k else k (.bl false) O3)) : WE X (.Compare a [op, op'] [b, c] pos) Γ O k := fun σ L H hs hr Q q => by
  refine toE (pe_chain (ou _) (ou _) (pu a) (pu b) (pu c) hm) ?_
  refine h σ L H hs hr _ fun x dx O1 L1 H1 h1 e1 i1 r1 => ?_
  refine h1 σ L1 H1 (hs.mono e1) r1 _ fun y dy O2 L2 H2 h2 e2 i2 r2 => ?_
  refine h2 x y L2 H2 (i1.mono e2) i2 r2 _ fun z dz O3 L3 H3 h3 e3 i3 r3 => ?_
  obtain ⟨t, e, h3⟩ := h3
  subst e
  refine ⟨t, i3.bl', ?_⟩
  cases t with
  | true =>
    refine iteT ?_
    have h3' : WE X c Γ O3 fun w O4 => WO X (compareOp op') dy w O4 k := h3
    refine h3' σ L3 H3 (hs.mono ((e1.trans e2).trans e3)) r3 _ fun w dw O4 L4 H4 h4 e4 i4 r4 => ?_
    exact h4 y w L4 H4 (i2.mono (e3.trans e4)) i4 r4 Q (q.le (((e1.trans e2).trans e3).trans e4))
  | false =>
    refine iteF ?_
    have h3' : k (.bl false) O3 := h3
    exact q _ _ _ _ _ h3' ((e1.trans e2).trans e3) (.bl false) r3
theorem we_and1 {op a pos} (h : WE X a Γ O k) : WE X (.BoolOp op [a] pos) Γ O k := fun σ L H hs hr Q q => toE (pe_one (pu a)) (h σ L H hs hr Q q)
theorem we_and {a b rest pos} (h : WE X a Γ O fun x O1 => ∃ c, x = .bl c ∧ if c = true then WE X (.BoolOp .And (b :: rest) pos) Γ O1 k else k (.bl false) O1) : WE X (.BoolOp .And (a :: b :: rest) pos) Γ O k := fun σ L H hs hr Q q => by
  refine toE (pe_and (pu a) (pu _)) ?_
  refine h σ L H hs hr _ fun x dx O1 L1 H1 h1 e1 i1 r1 => ?_
  obtain ⟨c, e, h1⟩ := h1
  subst e
  refine ⟨c, i1.bl', ?_⟩
  cases c with
  | true =>
    have h1' : WE X (.BoolOp .And (b :: rest) pos) Γ O1 k := h1
    exact iteT (h1' σ L1 H1 (hs.mono e1) r1 Q (q.le e1))
  | false =>
    have h1' : k (.bl false) O1 := h1
    exact iteF (q _ _ _ _ _ h1' e1 (.bl false) r1)
theorem we_or {a b rest pos} (h : WE X a Γ O fun x O1 => ∃ c, x = .bl c ∧ if c = true then k (.bl true) O1 else WE X (.BoolOp .Or (b :: rest) pos) Γ O1 k) : WE X (.BoolOp .Or (a :: b :: rest) pos) Γ O k := fun σ L H hs hr Q q => by
  refine toE (pe_or (pu a) (pu _)) ?_
  refine h σ L H hs hr _ fun x dx O1 L1 H1 h1 e1 i1 r1 => ?_
  obtain ⟨c, e, h1⟩ := h1
  subst e
  refine ⟨c, i1.bl', ?_⟩
  cases c with
  | true =>
    have h1' : k (.bl true) O1 := h1
    exact iteT (q _ _ _ _ _ h1' e1 (.bl true) r1)
  | false =>
    have h1' : WE X (.BoolOp .Or (b :: rest) pos) Γ O1 k := h1
    exact iteF (h1' σ L1 H1 (hs.mono e1) r1 Q (q.le e1))
theorem we_not {a pos} (h : WE X a Γ O fun x O1 => ∃ c, x = .bl c ∧ k (.bl (!c)) O1) : WE X (.UnaryOp .Not a pos) Γ O k := fun σ L H hs hr Q q => by
  refine toE (pe_not (pu a)) ?_
  refine h σ L H hs hr _ fun x dx O1 L1 H1 h1 e1 i1 r1 => ?_
  obtain ⟨c, e, h1⟩ := h1
  subst e
  exact ⟨c, i1.bl', q _ _ _ _ _ h1 e1 (.bl _) r1⟩
theorem we_ifExp {c a b pos} (h : WT X c Γ O fun t O1 => if t = true then WE X a Γ O1 k else WE X b Γ O1 k) : WE X (.IfExp c a b pos) Γ O k := fun σ L H hs hr Q q => by
  refine toE (pe_ifExp (ptu c) (pu a) (pu b)) ?_
  refine h σ L H hs hr _ fun t O1 L1 H1 h1 e1 r1 => ?_
  cases t with
  | true =>
    have h1' : WE X a Γ O1 k := h1
    exact iteT (h1' σ L1 H1 (hs.mono e1) r1 Q (q.le e1))
  | false =>
    have h1' : WE X b Γ O1 k := h1
    exact iteF (h1' σ L1 H1 (hs.mono e1) r1 Q (q.le e1))

/-! ### tests -/
variable {kt : Bool → Ow → Prop}
theorem wt_val {e : Expr} (he : ∀ whole, isTrue e X.env whole = (do let v ← whole; standAt e.pos; holding [v] (truthy v))) (h : WE X e Γ O fun x O1 => ∃ c, x = .bl c ∧ kt c O1) : WT X e Γ O kt := fun σ L H hs hr Q q => by
  refine toT (pt_val (pu e) he) ?_
  refine h σ L H hs hr _ fun x dx O1 L1 H1 h1 e1 i1 r1 => ?_
  obtain ⟨c, e, h1⟩ := h1
  subst e
  exact ⟨c, i1.bl', q _ _ _ _ h1 e1 r1⟩
theorem wt_cmp {op a b pos} (hm : behindInMarks op b = false) (h : WE X a Γ O fun x O1 => WE X b Γ O1 fun y O2 => WO X (compareOp op) x y O2 fun z O3 => ∃ c, z = .bl c ∧ kt c O3) : WT X (.Compare a [op] [b] pos) Γ O kt := fun σ L H hs hr Q q => by
  refine toT (pt_cmpR (ou _) (pu a) (pu b) hm) ?_
  refine h σ L H hs hr _ fun x dx O1 L1 H1 h1 e1 i1 r1 => ?_
  refine h1 σ L1 H1 (hs.mono e1) r1 _ fun y dy O2 L2 H2 h2 e2 i2 r2 => ?_
  refine h2 x y L2 H2 (i1.mono e2) i2 r2 _ fun z dz O3 L3 H3 h3 e3 i3 r3 => ?_
  obtain ⟨c, e, h3⟩ := h3
  subst e
  exact ⟨c, i3.bl', q _ _ _ _ h3 ((e1.trans e2).trans e3) r3⟩
theorem wt_chain {op op' a b c pos} (hm : lastMarks [op, op'] [b, c] = false) (h : WE X a Γ O fun x O1 => WE X b Γ O1 fun y O2 => WO X (compareOp op) x y O2 fun z O3 => ∃ t, z = .bl t ∧
    (if t = true then WE X c Γ O3 fun w O4 => WO X (compareOp op') y w O4 fun z O5 => ∃ t, z = .bl t ∧ kt t O5 else kt false O3)) : WT X (.Compare a [op, op'] [b, c] pos) Γ O kt := fun σ L H hs hr Q q => by
  refine toT (pt_chain (ou _) (ou _) (pu a) (pu b) (pu c) hm) ?_
  refine h σ L H hs hr _ fun x dx O1 L1 H1 h1 e1 i1 r1 => ?_
  refine h1 σ L1 H1 (hs.mono e1) r1 _ fun y dy O2 L2 H2 h2 e2 i2 r2 => ?_
  refine h2 x y L2 H2 (i1.mono e2) i2 r2 _ fun z dz O3 L3 H3 h3 e3 i3 r3 => ?_
  obtain ⟨t, e, h3⟩ := h3
  subst e
  refine ⟨t, i3.bl', ?_⟩
  cases t with
  | true =>
    refine iteT ?_
    have h3' : WE X c Γ O3 fun w O4 => WO X (compareOp op') dy w O4 fun z O5 => ∃ t, z = .bl t ∧ kt t O5 := h3
    refine h3' σ L3 H3 (hs.mono ((e1.trans e2).trans e3)) r3 _ fun w dw O4 L4 H4 h4 e4 i4 r4 => ?_
    refine h4 y w L4 H4 (i2.mono (e3.trans e4)) i4 r4 _ fun z5 d5 O5 L5 H5 h5 e5 i5 r5 => ?_
    obtain ⟨t5, e, h5⟩ := h5
    subst e
    exact ⟨t5, i5.bl', q _ _ _ _ h5 ((((e1.trans e2).trans e3).trans e4).trans e5) r5⟩
  | false =>
    refine iteF ?_
    have h3' : kt false O3 := h3
    exact ⟨false, rfl, q _ _ _ _ h3' ((e1.trans e2).trans e3) r3⟩
theorem wt_not {a pos} (h : WT X a Γ O fun c O1 => kt (!c) O1) : WT X (.UnaryOp .Not a pos) Γ O kt := fun σ L H hs hr Q q => by
  refine toT (pt_not (ptu a)) ?_
  exact h σ L H hs hr _ fun c O1 L1 H1 h1 e1 r1 => q _ _ _ _ h1 e1 r1
theorem wt_w {e : Expr} (h : WW X e Γ O kt) : WT X e Γ O kt := fun σ L H hs hr Q q => toT (pwu e).pt (h σ L H hs hr Q q)
theorem ww_and1 {a pos} (h : WT X a Γ O kt) : WW X (.BoolOp .And [a] pos) Γ O kt := fun σ L H hs hr Q q => toW (pw_and1 (ptu a)) (h σ L H hs hr Q q)
theorem ww_or1 {a pos} (h : WT X a Γ O kt) : WW X (.BoolOp .Or [a] pos) Γ O kt := fun σ L H hs hr Q q => toW (pw_or1 (ptu a)) (h σ L H hs hr Q q)
theorem ww_and {a b rest pos} (h : WT X a Γ O fun c O1 => if c = true then WW X (.BoolOp .And (b :: rest) pos) Γ O1 kt else kt false O1) : WW X (.BoolOp .And (a :: b :: rest) pos) Γ O kt := fun σ L H hs hr Q q => by
  refine toW (pw_and (ptu a) (pwu _)) ?_
  refine h σ L H hs hr _ fun c O1 L1 H1 h1 e1 r1 => ?_
  cases c with
  | true =>
    have h1' : WW X (.BoolOp .And (b :: rest) pos) Γ O1 kt := h1
    exact iteT (h1' σ L1 H1 (hs.mono e1) r1 Q (q.le e1))
  | false =>
    have h1' : kt false O1 := h1
    exact iteF (q _ _ _ _ h1' e1 r1)
theorem ww_or {a b rest pos} (h : WT X a Γ O fun c O1 => if c = true then kt true O1 else WW X (.BoolOp .Or (b :: rest) pos) Γ O1 kt) : WW X (.BoolOp .Or (a :: b :: rest) pos) Γ O kt := fun σ L H hs hr Q q => by
  refine toW (pw_or (ptu a) (pwu _)) ?_
  refine h σ L H hs hr _ fun c O1 L1 H1 h1 e1 r1 => ?_
  cases c with
  | true =>
    have h1' : kt true O1 := h1
    exact iteT (q _ _ _ _ h1' e1 r1)
  | false =>
    have h1' : WW X (.BoolOp .Or (b :: rest) pos) Γ O1 kt := h1
    exact iteF (h1' σ L1 H1 (hs.mono e1) r1 Q (q.le e1))

/-! ### arguments, displays -/
variable {ka : List D → Ow → Prop}
theorem wa_nil (h : ka [] O) : WA X [] Γ O ka := fun σ L H hs hr Q q => toA pa_nil (q _ _ _ _ _ h (.refl L) .nil hr)
theorem wa_cons {e : Expr} {es : List Expr} (hst : starEach (e :: es) X.env = (false, eval e X.env) :: starEach es X.env) (h : WE X e Γ O fun x O1 => WA X es Γ O1 fun ds O2 => ka (x :: ds) O2) : WA X (e :: es) Γ O ka := fun σ L H hs hr Q q => by
  refine toA (pa_cons (pu e) (pau es) hst) ?_
  refine h σ L H hs hr _ fun x dx O1 L1 H1 h1 e1 i1 r1 => ?_
  refine h1 σ L1 H1 (hs.mono e1) r1 _ fun vs ds O2 L2 H2 h2 e2 i2 r2 => ?_
  exact q _ _ _ _ _ h2 (e1.trans e2) (.cons (i1.mono e2) i2) r2
theorem we_tup {es x1 pos} (h : WA X es Γ O fun ds O1 => ds.length ≤ sizeLine ∧ k (.tup ds) O1) : WE X (.Tuple es x1 pos) Γ O k := fun σ L H hs hr Q q => by
  refine toE (pe_tup (pau es)) ?_
  refine h σ L H hs hr _ fun vs ds O1 L1 H1 h1 e1 i1 r1 => ⟨by rw [i1.length]; exact h1.1, fun p hp => ?_⟩
  obtain ⟨f1, _⟩ := r1.free hp
  have le := Lg.le_add (L := L1) (o := .tup vs) f1
  exact q _ _ _ _ _ h1.2 (e1.trans le) (.tup (.inl (.inl upd_same)) (i1.mono le)) (r1.new hp)
theorem we_lst {es pos} (h : WA X es Γ O fun ds O1 => ds.length ≤ sizeLine ∧ k (.lst ds) O1) : WE X (.List es pos) Γ O k := fun σ L H hs hr Q q => by
  refine toE (pe_lst (pau es)) ?_
  refine h σ L H hs hr _ fun vs ds O1 L1 H1 h1 e1 i1 r1 => ⟨by rw [i1.length]; exact h1.1, fun p hp => ?_⟩
  obtain ⟨f1, _⟩ := r1.free hp
  have le := Lg.le_add (L := L1) (o := .lst vs) f1
  exact q _ _ _ _ _ h1.2 (e1.trans le) (.lst upd_same (i1.mono le)) (r1.new hp)
/-- a list that may change -/
theorem we_lstO {es pos} (h : WA X es Γ O fun ds O1 => ds.length ≤ sizeLine ∧ ∀ p, O1 p = none → k (.own p) (put O1 p (.lst ds))) : WE X (.List es pos) Γ O k := fun σ L H hs hr Q q => by
  refine toE (pe_lst (pau es)) ?_
  refine h σ L H hs hr _ fun vs ds O1 L1 H1 h1 e1 i1 r1 => ⟨by rw [i1.length]; exact h1.1, fun p hp => ?_⟩
  obtain ⟨f1, f2, _⟩ := r1.free hp
  exact q _ _ _ _ _ (h1.2 p f2) e1 (.own p) (r1.newOwn hp ⟨vs, upd_same, i1⟩)
theorem we_dicO {pos} (h : ∀ p, O p = none → k (.own p) (put O p (.dic []))) : WE X (.Dict [] [] pos) Γ O k := fun σ L H hs hr Q q => by
  refine toE pe_dnewK ?_
  intro p hp
  obtain ⟨f1, f2, _⟩ := hr.free hp
  exact q _ _ _ _ _ (h p f2) (.refl L) (.own p) (hr.newOwn hp ⟨[], upd_same, rfl, .nil⟩)

/-! ### statements -/
variable {De : DE} {st : Stmt} {rest : List Stmt}
theorem ws_nil (h : De.nx Γ O) : WSs X [] Γ O De := fun σ L H hs hr E q => toSs pss_nil (q.nx _ _ _ _ _ h (.refl L) hs hr)
theorem ws_cons (h : WS X st Γ O { De with nx := fun Γ' O' => WSs X rest Γ' O' De }) : WSs X (st :: rest) Γ O De := fun σ L H hs hr E q => by
  refine toSs (pss_cons (psu st) (pssu rest)) ?_
  exact h σ L H hs hr _ (q.nxt fun Γ' O' σ' L' H' h' e' hs' hr' => h' σ' L' H' hs' hr' E (q.le e'))
theorem ws_one (h : WS X st Γ O De) : WSs X [st] Γ O De := fun σ L H hs hr E q => toSs (pss_one (psu st)) (h σ L H hs hr E q)
theorem ws_pass {pos} (h : De.nx Γ O) : WS X (.Pass pos) Γ O De := fun σ L H hs hr E q => toS ps_pass (q.nx _ _ _ _ _ h (.refl L) hs hr)
theorem ws_break {pos} (h : De.bk Γ O) : WS X (.Break pos) Γ O De := fun σ L H hs hr E q => toS ps_break (q.bk _ _ _ _ _ h (.refl L) hs hr)
theorem ws_continue {pos} (h : De.ct Γ O) : WS X (.Continue pos) Γ O De := fun σ L H hs hr E q => toS ps_continue (q.ct _ _ _ _ _ h (.refl L) hs hr)
theorem ws_doc {x j pos pos'} (h : De.nx Γ O) : WS X (.Expr (.Constant (.str x) j pos) pos') Γ O De := fun σ L H hs hr E q => toS ps_doc (q.nx _ _ _ _ _ h (.refl L) hs hr)
theorem ws_expr {e pos} (hw : swapsWith e none pos.line X.env = pure false) (h : WE X e Γ O fun _ O1 => De.nx Γ O1) : WS X (.Expr e pos) Γ O De := fun σ L H hs hr E q => by
  refine toS (ps_expr (pu e) hw) ?_
  exact h σ L H hs hr _ fun v d O1 L1 H1 h1 e1 i1 r1 => q.nx _ _ _ _ _ h1 e1 (hs.mono e1) r1
theorem ws_ret {e pos} (h : WE X e Γ O De.rt) : WS X (.Return (some e) pos) Γ O De := fun σ L H hs hr E q => toS (ps_ret (pu e)) (h σ L H hs hr _ q.rt)
theorem ws_retN {pos} (h : De.rt .non O) : WS X (.Return none pos) Γ O De := fun σ L H hs hr E q => toS ps_retN (q.rt _ _ _ _ _ h (.refl L) .non hr)
theorem ws_if {c : Expr} {a b : List Stmt} {pos} (h : WT X c Γ O fun t O1 => if t = true then WSs X a Γ O1 De else WSs X b Γ O1 De) : WS X (.If c a b pos) Γ O De := fun σ L H hs hr E q => by
  refine toS (ps_if (ptu c) (pssu a) (pssu b)) ?_
  refine h σ L H hs hr _ fun t O1 L1 H1 h1 e1 r1 => ?_
  cases t with
  | true =>
    have h1' : WSs X a Γ O1 De := h1
    exact iteT (h1' σ L1 H1 (hs.mono e1) r1 E (q.le e1))
  | false =>
    have h1' : WSs X b Γ O1 De := h1
    exact iteF (h1' σ L1 H1 (hs.mono e1) r1 E (q.le e1))
/-- a local name that is stored -/
structure Vs (X : Cx) (x : Str) (i : Nat) : Prop where
  nd : X.N.Nodup
  hN : X.N[i]? = some x
  hl : Loc X.env.scope x
  hf : X.fn x = true ∨ X.env.scope.names.lookup x = some .local
theorem ws_set {x : Str} {i : Nat} {e : Expr} {pos pos'} (hx : Vs X x i) (hw : swapsWith e (some (.Name x pos')) pos.line X.env = pure false) (h : WE X e Γ O fun d O1 => De.nx (Γ.set i (some d)) O1) : WS X (.Assign [.Name x pos'] e pos) Γ O De := fun σ L H hs hr E q => by
  refine toS (ps_set (i := i) hx.nd hx.hN hx.hl (pu e) hw hx.hf) ?_
  exact h σ L H hs hr _ fun v d O1 L1 H1 h1 e1 i1 r1 => q.nx _ _ _ _ _ h1 e1 ((hs.mono e1).set i1 i) r1
/-- a, b = x, y -/
theorem ws_par {x y : Str} {i j : Nat} {a b : Expr} {px py pt kt k2 pt2 pos} (hc : X.calm = true) (hN : X.N.Nodup) (hi : X.N[i]? = some x) (hj : X.N[j]? = some y) (hij : i ≠ j) (hx : X.env.scope.names.lookup x = some .local) (hy : X.env.scope.names.lookup y = some .local)
    (hp : ∀ {ta : TA}, PA X [a, b] ta → PS X (.Assign [.Tuple [.Name x px, .Name y py] kt pt] (.Tuple [a, b] k2 pt2) pos) (tPar i j ta))
    (h : WA X [a, b] Γ O fun ds O1 => ∃ d e, ds = [d, e] ∧ De.nx ((Γ.set i (some d)).set j (some e)) O1) : WS X (.Assign [.Tuple [.Name x px, .Name y py] kt pt] (.Tuple [a, b] k2 pt2) pos) Γ O De := fun σ L H hs hr E q => by
  refine toS (hp (pau [a, b])) ?_
  refine h σ L H hs hr _ fun vs ds O1 L1 H1 h1 e1 i1 r1 => ?_
  obtain ⟨d, e, z, h1⟩ := h1
  subst z
  cases i1 with
  | cons a1 t =>
    cases t with
    | cons a2 t =>
      cases t
      exact ⟨_, _, rfl, q.nx _ _ _ _ _ h1 e1 (((hs.mono e1).set a1 i).set a2 j) r1⟩
theorem ws_never {st : Stmt} (h : False) : WS X st Γ O De := h.elim
end
end DL
/-! DL, part C: defs that keep a promise where no repr is under way; their calls -/
namespace DL
open L2 PySem
open PySem.Spec PyProof.Rows

structure FnG (P : Program) (w : World) (K : PySem.W.Frag) (mg : Str → Option Value) (base : Heap) (CX : CXT) (k : Nat) (f : Addr) (fd : FuncData) (ps : List Str) (sp : Sp) : Prop where
  ln : ∀ vs H Q E, sp vs H Q E → vs.length = ps.length
  go : ∀ (A : Around) (outer : List Env) (s : Shared) (H : Hp) (args : Args) (us : List Value) (vs : List V) (Q : VK) (E : XK), A.guards = some [] → Room k A → Env0 P w K mg base A outer s H →
    BindsTo s fd args (ps.zip us) → Vals vs us → sp vs H Q E → codeAny (model P w) A (.call (.ref f) args) (CR CX outer P w H s Q E) s
theorem FnG.of {P : Program} {w : World} {K : PySem.W.Frag} {mg : Str → Option Value} {base : Heap} {CX : CXT} {k : Nat} {f : Addr} {fd : FuncData} {ps : List Str} {sp : Sp} (F : FnOk P w K mg base CX k f fd ps sp) : FnG P w K mg base CX k f fd ps sp :=
  ⟨F.len, fun A outer s H args us vs Q E _ => F.run A outer s H args us vs Q E⟩
theorem FnG.mono {P : Program} {w : World} {K : PySem.W.Frag} {mg : Str → Option Value} {base : Heap} {CX : CXT} {j k : Nat} {f : Addr} {fd : FuncData} {ps : List Str} {sp : Sp} (F : FnG P w K mg base CX j f fd ps sp) (h : j ≤ k) : FnG P w K mg base CX k f fd ps sp :=
  ⟨F.ln, fun A outer s H args us vs Q E hg hr => F.go A outer s H args us vs Q E hg (hr.mono h)⟩
theorem deep_guards (A : Around) (env : Env) : (A.deeper env).guards = A.guards := rfl

/-- a def as it stands behind the top, whatever its defaults: the hand layer's own word for it -/
abbrev FunX := @C8.Fun
theorem fn_same (st : Stmt) : C8.fnArgs st = defArgs st ∧ C8.fnBody st = defBody st ∧ C8.fnScope st = defScope st := by
  cases st <;> exact ⟨rfl, rfl, rfl⟩
theorem funx_mk {K : PySem.W.Frag} {x qual : Str} {st : Stmt} {f : Addr} {oc : Value} {od an : Option Addr} {osl : Array (Option Value)} {dV kV doc pm cdv ct : Value} (l : K.lookup f = some ⟨oc, od, .func (PySem.W.fnOf x qual (defArgs st) (defBody st) (defScope st) dV kV doc pm an cdv ct), osl⟩) (c : PySem.W.codeIn K cdv qual = true) : FunX K x qual st f (PySem.W.fnOf x qual (defArgs st) (defBody st) (defScope st) dV kV doc pm an cdv ct) := by
  obtain ⟨e1, e2, e3⟩ := fn_same st
  exact ⟨_, _, _, _, _, _, _, _, _, _, by rw [e1, e2, e3], l, c⟩
/-- a def's body keeps its promise -/
theorem FnG.body {CX : CXT} {P : Program} {w : World} {K : PySem.W.Frag} {mg : Str → Option Value} {base : Heap} {x qual : Str} {st : Stmt} {f : Addr} {fd : FuncData} {N ps : List Str} {k : Nat} {sp : Sp}
    (F : FunX K x qual st f fd) (S : FnScope N ps (defScope st)) (len : ∀ vs H Q E, sp vs H Q E → vs.length = ps.length)
    (hbody : ∀ (cdv : Value) (A : Around) (outer : List Env) (s : Shared) (H : Hp) (vs : List V) (Q : VK) (E : XK), A.guards = some [] → Room k (A.deeper (envOfC qual (defScope st) s.heap.objs.size f cdv)) → sp vs H Q E →
      uSs (cxOf CX P w K mg base N qual (defScope st) f cdv A outer s H E) (defBody st) { nx := fun _ H' => Q .non H', rt := Q } (start N vs) H) : FnG P w K mg base CX (k + 1) f fd ps sp := by
  obtain ⟨_, _, _, _, _, _, _, cdv, _, _, ef, lk, hcd⟩ := F.ex
  rw [(fn_same st).1, (fn_same st).2.1, (fn_same st).2.2] at ef
  subst ef
  refine ⟨len, fun A outer s H args us vs Q E hg hr e0 hb rv hsp => ?_⟩
  have hKs : K.In s.heap := e0.mod.kin.keeps fun b o e => (e0.bs b o e).1
  refine Att.call_fn hKs (e0.mod.nolimit.keeps fun b o e => (e0.bs b o e).1) lk hcd hr.depth hb ?_ (fun s₁ x => ?_) S.co S.gen S.kind
  · refine List.all_eq_true.mpr fun y hy => ?_
    have hm := S.par y.1 (List.of_mem_zip (a := y.1) (b := y.2) hy).1
    rcases hm with q | q
    · rw [q]; rfl
    · rw [q]; rfl
  have I := inv_start (CX := CX) (N := N) (E := E) S hr.hd e0 (len _ _ _ _ hsp) rv x
  have hw := hbody cdv A outer s H vs Q E hg (hr.deeper _) hsp [] s₁ I
  refine wpAny_mono hw (fun fl s' hs => ?_) fun e s' hs => hs
  have done : ∀ {σ' : L2.St} {H' : Hp} {v : V} {u : Value}, Inv (cxOf CX P w K mg base N qual (defScope st) f cdv A outer s H E) [] σ' H' s' → RelV v u → Q v H' → CE outer P w H s Q u s' :=
    fun {σ' H' v u} J r q => ⟨v, H', J.os, J.bare, J.base, J.hok, r, q⟩
  match fl, hs with
  | .next, ⟨_, _, J, q⟩ => exact done (v := .non) (u := .none) J rfl q
  | .ret u, ⟨_, _, _, J, r, q⟩ => exact done J r q
  | .brk, ⟨_, _, _, q⟩ => exact q.elim
  | .cont, ⟨_, _, _, q⟩ => exact q.elim

/-! ### promises over data -/
/-- what an exception bears: its class, its own attributes -/
abbrev KX := Addr → List (Str × D) → Ow → Prop
abbrev SpD := List D → Ow → KD → KX → Prop
def FolX (K : PySem.W.Frag) (L : Lg) (kx : KX) (E : XK) : Prop := ∀ C d (fs : List (Str × V)) (fds : List (Str × D)) O' L' H', kx C fds O' → L.le L' → H' d = some (.xd fs) → fs.map (·.1) = fds.map (·.1) → IsL K L' (fs.map (·.2)) (fds.map (·.2)) → R K L' O' H' → E (.ref C) (some d) H'
theorem FolX.le {K : PySem.W.Frag} {L L' : Lg} {kx : KX} {E : XK} (h : FolX K L kx E) (e : L.le L') : FolX K L' kx E := fun C d fs fds O' L2 H' a b => h C d fs fds O' L2 H' a (e.trans b)
def spOf (K : PySem.W.Frag) (S : SpD) : Sp := fun vs H Q E => ∃ (ds : List D) (L : Lg) (O : Ow) (k : KD) (kx : KX), IsL K L vs ds ∧ R K L O H ∧ S ds O k kx ∧ Fol K L k Q ∧ FolX K L kx E

/-- the start of a def's slots -/
def gst (n : Nat) (ds : List D) : Sg := ds.map some ++ List.replicate (n - ds.length) none
theorem sl_start {K : PySem.W.Frag} {L : Lg} {vs : List V} {ds : List D} {N : List Str} (h : IsL K L vs ds) : Sl K L (start N vs) (gst N.length ds) := by
  refine ⟨by simp [L2.start, gst, h.length], fun i d q => ?_⟩
  unfold gst at q
  by_cases c : i < ds.length
  · rw [List.getElem?_append_left (by simpa using c), List.getElem?_map] at q
    cases e : ds[i]? with
    | none => rw [e] at q; cases q
    | some d' =>
      rw [e] at q
      obtain ⟨v, a, b⟩ := h.get e
      have q' : d' = d := by simpa using q
      subst q'
      refine ⟨v, ?_, b⟩
      unfold L2.start
      have c' : i < (vs.map some).length := by rw [List.length_map, h.length]; exact c
      rw [List.getElem?_append_left c', List.getElem?_map, a]
      rfl
  · rw [List.getElem?_append_right (by simpa using Nat.le_of_not_lt c), List.getElem?_replicate] at q
    split at q <;> cases q

/-- a def of the module that is known: where it stands, how it is called, what it promises -/
structure Kn (X : Cx) (x : Str) (k : Nat) (S : SpD) : Prop where
  ex : ∃ (f : Addr) (fd : FuncData) (ps : List Str), FnG X.prog X.w X.K X.mg X.base CX0 k f fd ps (spOf X.K S) ∧ X.mg x = some (.ref f) ∧ PySem.W.keepIn X.K (.ref f) = true ∧ Binds X.K fd ps []
  gl : Gl X x
  db : (x == ("__debug__" : Str)) = false

section
variable {X : Cx} {Γ : Sg} {O : Ow} {k : KD}
theorem we_call {x : Str} {j : Nat} {S : SpD} {e : Expr} {es : List Expr} {p pos : Pos} (F : Kn X x j S) (hgd : X.A.guards = some []) (hr : Room j X.A) (he : starEach (e :: es) X.env = (false, eval e X.env) :: starEach es X.env) (hpl : (backTo pos (starEach es X.env)).any (·.1) = false)
    (h : WA X (e :: es) Γ O fun ds O1 => S ds O1 k fun _ _ _ => False) : WE X (.Call (.Name x p) (e :: es) [] pos) Γ O k := fun σ L H hs hR Q q pins s I => by
  obtain ⟨f, fd, ps, G, hm, hk, hb⟩ := F.ex
  refine wpAny_Call_Name_kw (ld_glob I F.gl hm ?_ F.db)
  refine PySem.W.callWith_K (h₀ := X.base) I.ok.mod.kin hk (thn (h σ L H hs hR (fun vs H1 => ∃ ds O1 L1, (S ds O1 k fun _ _ _ => False) ∧ L.le L1 ∧ IsL X.K L1 vs ds ∧ R X.K L1 O1 H1) (fun vs ds O1 L1 H1 a b c d => ⟨ds, O1, L1, a, b, c, d⟩) pos pins s I) fun us s1 ⟨vs, H1, I1, rv, ds, O1, L1, h1, le1, is1, r1⟩ => ⟨I1.kIn, ?_⟩) he hpl
  have hsp : spOf X.K S vs H1 Q (fun _ _ _ => False) := ⟨ds, L1, O1, k, fun _ _ _ => False, is1, r1, h1, q.le le1, fun _ _ _ _ _ _ _ z => z.elim⟩
  have hl : (us ++ []).length = ps.length := by rw [List.append_nil, ← rv.length]; exact G.ln _ _ _ _ hsp
  refine wpAny_call (codeAny_mono (G.go X.A X.stack s1 H1 ⟨us, []⟩ (us ++ []) vs Q (fun _ _ _ => False) hgd hr I1.env0 (hb s1 us I1.kIn hl) (by rw [List.append_nil]; exact rv) hsp) fun r s' hq => ?_)
  match r, hq with
  | .ok (.ret u), hq => exact I1.after hq
  | .ok .next, hq => exact hq.elim
  | .ok .brk, hq => exact hq.elim
  | .ok .cont, hq => exact hq.elim
  | .error e, hq => exact hq.elim
end
end DL
/-! DL, part D: operators, calls of built-ins, subscripts, methods over data -/
namespace DL
open L2 PySem
open PySem.Spec PyProof.Rows

section
variable {K : PySem.W.Frag} {L : Lg} {O : Ow} {H : Hp}
theorem R.rd (r : R K L O H) {a : Addr} {u : HO} (h : Rd L.hp a u) : Rd H a u := by
  rcases h with h | ⟨o, h⟩
  · exact .inl (r.hp _ _ h)
  · exact .inr ⟨o, r.hp _ _ h⟩
theorem R.sq (r : R K L O H) {a : Addr} {vs : List V} (h : SqL K L.hp a vs) : SqL K H a vs := by
  rcases h with h | h
  · exact .inl (r.rd h)
  · exact .inr h
theorem R.st (r : R K L O H) {a : Addr} {vs : List V} (h : SqT K L.hp a vs) : SqT K H a vs := by
  rcases h with h | h
  · exact .inl (r.rd h)
  · exact .inr h
/-- a new list | tuple | dict that stays, its datum -/
theorem R.newL (r : R K L O H) {p : Addr} {vs : List V} {ds : List D} (hp : H p = none) (i : IsL K L vs ds) : ∃ L', L.le L' ∧ Is K L' (.ref p) (.lst ds) ∧ R K L' O (upd H p (.lst vs)) := by
  obtain ⟨f1, _⟩ := r.free hp
  have le := Lg.le_add (L := L) (o := .lst vs) f1
  exact ⟨_, le, .lst upd_same (i.mono le), r.new hp⟩
theorem R.newT (r : R K L O H) {p : Addr} {vs : List V} {ds : List D} (hp : H p = none) (i : IsL K L vs ds) : ∃ L', L.le L' ∧ Is K L' (.ref p) (.tup ds) ∧ R K L' O (upd H p (.tup vs)) := by
  obtain ⟨f1, _⟩ := r.free hp
  have le := Lg.le_add (L := L) (o := .tup vs) f1
  exact ⟨_, le, .tup (.inl (.inl upd_same)) (i.mono le), r.new hp⟩
theorem R.newLO (r : R K L O H) {p : Addr} {vs : List V} {ds : List D} (hp : H p = none) (i : IsL K L vs ds) : R K L (put O p (.lst ds)) (upd H p (.lst vs)) := r.newOwn hp ⟨vs, upd_same, i⟩
/-- two owners hold the same list -/
theorem own_lst (r : R K L O H) {p : Addr} {ds : List D} (h : O p = some (.lst ds)) : ∃ vs, H p = some (.lst vs) ∧ IsL K L vs ds := (r.ow _ _ h).2
theorem own_dic (r : R K L O H) {p : Addr} {ds : List (Key × D)} (h : O p = some (.dic ds)) : ∃ kvs, H p = some (.dK kvs) ∧ kvs.map (·.1) = ds.map (·.1) ∧ IsL K L (kvs.map (·.2)) (ds.map (·.2)) := (r.ow _ _ h).2
theorem own_ins (r : R K L O H) {p C : Addr} {ds : List (Str × D)} (h : O p = some (.ins C ds)) : ∃ dx fs, H p = some (.ins C dx fs) ∧ fs.map (·.1) = ds.map (·.1) ∧ IsL K L (fs.map (·.2)) (ds.map (·.2)) := (r.ow _ _ h).2
end

/-- a datum that reads as a list: one that stays, the script, or an owned one -/
def SqD (O : Ow) (d : D) (ds : List D) : Prop := d = .lst ds ∨ d = .scr ds ∨ ∃ p, d = .own p ∧ O p = some (.lst ds)
theorem sqD_of {K : PySem.W.Frag} {L : Lg} {O : Ow} {H : Hp} (r : R K L O H) {v : V} {d : D} {ds : List D} (h : SqD O d ds) (i : Is K L v d) : ∃ a vs, v = .ref a ∧ SqL K H a vs ∧ IsL K L vs ds := by
  rcases h with rfl | rfl | ⟨p, rfl, h⟩
  · obtain ⟨a, vs, e, h1, h2⟩ := i.lst'
    exact ⟨a, vs, e, .inl (.inl (r.hp _ _ h1)), h2⟩
  · obtain ⟨a, vs, e, h1, h2⟩ := i.scr'
    exact ⟨a, vs, e, r.sq h1, h2⟩
  · obtain ⟨vs, h1, h2⟩ := own_lst r h
    exact ⟨p, vs, i.own', .inl (.inl h1), h2⟩
/-- .. and is tracked -/
def TqD (O : Ow) (d : D) (ds : List D) : Prop := d = .lst ds ∨ ∃ p, d = .own p ∧ O p = some (.lst ds)
theorem tqD_of {K : PySem.W.Frag} {L : Lg} {O : Ow} {H : Hp} (r : R K L O H) {v : V} {d : D} {ds : List D} (h : TqD O d ds) (i : Is K L v d) : ∃ a vs, v = .ref a ∧ H a = some (.lst vs) ∧ IsL K L vs ds := by
  rcases h with rfl | ⟨p, rfl, h⟩
  · obtain ⟨a, vs, e, h1, h2⟩ := i.lst'
    exact ⟨a, vs, e, r.hp _ _ h1, h2⟩
  · obtain ⟨vs, h1, h2⟩ := own_lst r h
    exact ⟨p, vs, i.own', h1, h2⟩

section
variable {X : Cx} {Γ : Sg} {O : Ow} {k : KD}

/-! ### operators on ints -/
theorem wo_rI0 {f} {g : Int → Int → V} {d : D} (ho : OpR X f (rI0 g)) {i j : Int} (hz : ∀ L, Is X.K L (g i j) d) (h : k d O) : WO X f (.int i) (.int j) O k := fun vx vy L H ix iy hr Q q => toO ho ⟨i, j, ix.int', iy.int', q _ _ _ _ _ h (.refl L) (hz L) hr⟩
theorem wo_rI {f} {C : Int → Int → Prop} {g : Int → Int → V} {d : D} (ho : OpR X f (rI C g)) {i j : Int} (hc : C i j) (hz : ∀ L, Is X.K L (g i j) d) (h : k d O) : WO X f (.int i) (.int j) O k := fun vx vy L H ix iy hr Q q => toO ho ⟨i, j, ix.int', iy.int', hc, q _ _ _ _ _ h (.refl L) (hz L) hr⟩
variable {i j : Int}
theorem wo_add (h : k (.int (i + j)) O) : WO X (binaryOp .Add) (.int i) (.int j) O k := wo_rI0 op_add (fun _ => .int _) h
theorem wo_sub (h : k (.int (i - j)) O) : WO X (binaryOp .Sub) (.int i) (.int j) O k := wo_rI0 op_sub (fun _ => .int _) h
theorem wo_mul (hc : CMul i j) (h : k (.int (i * j)) O) : WO X (binaryOp .Mult) (.int i) (.int j) O k := wo_rI op_mul hc (fun _ => .int _) h
theorem wo_fdiv (hc : 0 < j ∧ j < 1073741824) (h : k (.int (i / j)) O) : WO X (binaryOp .FloorDiv) (.int i) (.int j) O k := wo_rI op_fdiv hc (fun _ => .int _) h
theorem wo_mod (hc : 0 < j) (h : k (.int (i % j)) O) : WO X (binaryOp .Mod) (.int i) (.int j) O k := wo_rI op_mod hc (fun _ => .int _) h
theorem wo_pow (hc : CPow i j) (h : k (.int (i ^ j.toNat)) O) : WO X (binaryOp .Pow) (.int i) (.int j) O k := wo_rI op_pow hc (fun _ => .int _) h
theorem wo_band (h : k (.int (Builtin.bitAnd i j)) O) : WO X (binaryOp .BitAnd) (.int i) (.int j) O k := wo_rI0 op_and (fun _ => .int _) h
theorem wo_lt (h : k (.bl (decide (i < j))) O) : WO X (compareOp .Lt) (.int i) (.int j) O k := wo_rI0 op_lt (fun _ => .bl _) h
theorem wo_le (h : k (.bl (decide (i ≤ j))) O) : WO X (compareOp .LtE) (.int i) (.int j) O k := wo_rI0 op_le (fun _ => .bl _) h
theorem wo_gt (h : k (.bl (decide (j < i))) O) : WO X (compareOp .Gt) (.int i) (.int j) O k := wo_rI0 op_gt (fun _ => .bl _) h
theorem wo_ge (h : k (.bl (decide (j ≤ i))) O) : WO X (compareOp .GtE) (.int i) (.int j) O k := wo_rI0 op_ge (fun _ => .bl _) h
theorem wu_neg (h : k (.int (-i)) O) : WU X (unaryOp .USub) (.int i) O k := fun vx L H ix hr Q q => toU un_neg ⟨i, ix.int', q _ _ _ _ _ h (.refl L) (.int _) hr⟩

/-! ### == of flat data -/
/-- the value of a flat datum -/
def D.v : D → V
  | .bl b => .bl b
  | .int i => .int i
  | .str x => .str x
  | .byt b => .byt b
  | _ => .non
def D.flat : D → Bool
  | .non => true
  | .bl _ => true
  | .int _ => true
  | .str _ => true
  | _ => false
theorem is_v {L : Lg} {v : V} {d : D} (hf : d.flat = true) (h : Is X.K L v d) : v = d.v := by
  cases h with
  | own | box | lst | scr | tup | dic | ins | ty | byt | exc | any | deal | nums => cases hf
  | _ => rfl
theorem isL_v {L : Lg} : ∀ {vs : List V} {ds : List D}, ds.all D.flat = true → IsL X.K L vs ds → vs = ds.map D.v
  | _, _, _, .nil => rfl
  | _, _, hf, .cons h t => by
    rw [List.all_cons,
        Bool.and_eq_true] at hf
    rw [List.map_cons, is_v hf.1 h, isL_v hf.2 t]
theorem wo_eqV {d e : D} (h1 : d.flat = true) (h2 : e.flat = true) (hs : scal d.v e.v = true) (h : k (.bl (decide (d.v = e.v))) O) : WO X (compareOp .Eq) d e O k := fun vx vy L H ix iy hr Q q => by
  rw [is_v h1 ix, is_v h2 iy]; exact toO op_eq ⟨hs, q _ _ _ _ _ h (.refl L) (.bl _) hr⟩
theorem wo_neV {d e : D} (h1 : d.flat = true) (h2 : e.flat = true) (hs : scal d.v e.v = true) (h : k (.bl (!decide (d.v = e.v))) O) : WO X (compareOp .NotEq) d e O k := fun vx vy L H ix iy hr Q q => by
  rw [is_v h1 ix, is_v h2 iy]; exact toO op_ne ⟨hs, q _ _ _ _ _ h (.refl L) (.bl _) hr⟩
theorem wo_eq_ii (h : k (.bl (decide (i = j))) O) : WO X (compareOp .Eq) (.int i) (.int j) O k := wo_eqV rfl rfl rfl (by
  have e : decide (D.v (.int i) = D.v (.int j)) = decide (i = j) := by simp [D.v]
  rw [e]; exact h)
theorem wo_ne_ii (h : k (.bl (!decide (i = j))) O) : WO X (compareOp .NotEq) (.int i) (.int j) O k := wo_neV rfl rfl rfl (by
  have e : decide (D.v (.int i) = D.v (.int j)) = decide (i = j) := by simp [D.v]
  rw [e]; exact h)
theorem wo_eq_ss {x y : Str} (h : k (.bl (decide (x = y))) O) : WO X (compareOp .Eq) (.str x) (.str y) O k := wo_eqV rfl rfl rfl (by
  have e : decide (D.v (.str x) = D.v (.str y)) = decide (x = y) := by simp [D.v]
  rw [e]; exact h)
theorem wo_ne_ss {x y : Str} (h : k (.bl (!decide (x = y))) O) : WO X (compareOp .NotEq) (.str x) (.str y) O k := wo_neV rfl rfl rfl (by
  have e : decide (D.v (.str x) = D.v (.str y)) = decide (x = y) := by simp [D.v]
  rw [e]; exact h)
theorem wo_eq_bb {x y : Bool} (h : k (.bl (decide (x = y))) O) : WO X (compareOp .Eq) (.bl x) (.bl y) O k := wo_eqV rfl rfl rfl (by
  have e : decide (D.v (.bl x) = D.v (.bl y)) = decide (x = y) := by simp [D.v]
  rw [e]; exact h)
theorem wo_ne_bb {x y : Bool} (h : k (.bl (!decide (x = y))) O) : WO X (compareOp .NotEq) (.bl x) (.bl y) O k := wo_neV rfl rfl rfl (by
  have e : decide (D.v (.bl x) = D.v (.bl y)) = decide (x = y) := by simp [D.v]
  rw [e]; exact h)
/-- is None -/
def D.isNon : D → Bool
  | .non => true
  | _ => false
theorem isNon_v {L : Lg} {v : V} {d : D} (h : Is X.K L v d) : decide (v = .non) = d.isNon := by
  cases h <;> rfl
theorem wo_isN {d : D} (h : k (.bl d.isNon) O) : WO X (compareOp .Is) d .non O k := fun vx vy L H ix iy hr Q q => toO op_isN ⟨iy.non', by rw [isNon_v ix]; exact q _ _ _ _ _ h (.refl L) (.bl _) hr⟩
theorem wo_notN {d : D} (h : k (.bl (!d.isNon)) O) : WO X (compareOp .IsNot) d .non O k := fun vx vy L H ix iy hr Q q => toO op_notN ⟨iy.non', by rw [isNon_v ix]; exact q _ _ _ _ _ h (.refl L) (.bl _) hr⟩
/-- texts -/
theorem wo_addS {x y : Str} (hz : x.length + y.length ≤ sizeLine) (h : k (.str (x ++ y)) O) : WO X (binaryOp .Add) (.str x) (.str y) O k := fun vx vy L H ix iy hr Q q => toO op_add_str ⟨x, y, ix.str', iy.str', hz, q _ _ _ _ _ h (.refl L) (.str _) hr⟩
theorem wo_ltS {x y : Str} (h : k (.bl (decide (x.cps.toList < y.cps.toList))) O) : WO X (compareOp .Lt) (.str x) (.str y) O k := fun vx vy L H ix iy hr Q q => toO op_lt_str ⟨x, y, ix.str', iy.str', q _ _ _ _ _ h (.refl L) (.bl _) hr⟩
theorem wo_inSign {c : Nat} {z : Str} (h : k (.bl (decide (c ∈ z.cps.toList))) O) : WO X (compareOp .In) (.str ⟨#[c]⟩) (.str z) O k := fun vx vy L H ix iy hr Q q => toO op_in_sign ⟨c, z, ix.str', iy.str', q _ _ _ _ _ h (.refl L) (.bl _) hr⟩
theorem wo_notInSign {c : Nat} {z : Str} (h : k (.bl (!decide (c ∈ z.cps.toList))) O) : WO X (compareOp .NotIn) (.str ⟨#[c]⟩) (.str z) O k := fun vx vy L H ix iy hr Q q => toO op_notIn_sign ⟨c, z, ix.str', iy.str', q _ _ _ _ _ h (.refl L) (.bl _) hr⟩
/-- in a list or a tuple of flat things -/
theorem wo_inL {d e : D} {ds : List D} (he : SqD O e ds) (h1 : d.flat = true) (h2 : ds.all D.flat = true) (f1 : flatV d.v = true) (f2 : (ds.map D.v).all flatV = true) (h : k (.bl (inV d.v (ds.map D.v))) O) : WO X (compareOp .In) d e O k := fun vx vy L H ix iy hr Q q => by
  obtain ⟨a, vs, rfl, s, t⟩ := sqD_of hr he iy
  rw [is_v h1 ix]
  obtain rfl := isL_v h2 t
  exact toO op_in_seq ⟨a, _, rfl, .inl s, f1, f2, q _ _ _ _ _ h (.refl L) (.bl _) hr⟩
theorem wo_inT {d : D} {ds : List D} (h1 : d.flat = true) (h2 : ds.all D.flat = true) (f1 : flatV d.v = true) (f2 : (ds.map D.v).all flatV = true) (h : k (.bl (inV d.v (ds.map D.v))) O) : WO X (compareOp .In) d (.tup ds) O k := fun vx vy L H ix iy hr Q q => by
  obtain ⟨a, vs, rfl, s, t⟩ := iy.tup'
  rw [is_v h1 ix]
  obtain rfl := isL_v h2 t
  exact toO op_in_seq ⟨a, _, rfl, .inr (hr.st s), f1, f2, q _ _ _ _ _ h (.refl L) (.bl _) hr⟩
theorem wo_ninL {d e : D} {ds : List D} (he : SqD O e ds) (h1 : d.flat = true) (h2 : ds.all D.flat = true) (f1 : flatV d.v = true) (f2 : (ds.map D.v).all flatV = true) (h : k (.bl (!inV d.v (ds.map D.v))) O) : WO X (compareOp .NotIn) d e O k := fun vx vy L H ix iy hr Q q => by
  obtain ⟨a, vs, rfl, s, t⟩ := sqD_of hr he iy
  rw [is_v h1 ix]
  obtain rfl := isL_v h2 t
  exact toO op_notIn_seq ⟨a, _, rfl, .inl s, f1, f2, q _ _ _ _ _ h (.refl L) (.bl _) hr⟩
theorem wo_ninT {d : D} {ds : List D} (h1 : d.flat = true) (h2 : ds.all D.flat = true) (f1 : flatV d.v = true) (f2 : (ds.map D.v).all flatV = true) (h : k (.bl (!inV d.v (ds.map D.v))) O) : WO X (compareOp .NotIn) d (.tup ds) O k := fun vx vy L H ix iy hr Q q => by
  obtain ⟨a, vs, rfl, s, t⟩ := iy.tup'
  rw [is_v h1 ix]
  obtain rfl := isL_v h2 t
  exact toO op_notIn_seq ⟨a, _, rfl, .inr (hr.st s), f1, f2, q _ _ _ _ _ h (.refl L) (.bl _) hr⟩
/-- xs + ys -/
theorem wo_cat {d e : D} {xs ys : List D} (h1 : TqD O d xs) (h2 : TqD O e ys) (hz : xs.length + ys.length ≤ sizeLine) (h : k (.lst (xs ++ ys)) O) : WO X (binaryOp .Add) d e O k := fun vx vy L H ix iy hr Q q => by
  obtain ⟨a, vs, rfl, s, t⟩ := tqD_of hr h1 ix
  obtain ⟨b, us, rfl, s', t'⟩ := tqD_of hr h2 iy
  refine toO op_cat ⟨a, b, vs, us, rfl, rfl, s, s', by rw [t.length, t'.length]; exact hz, fun p hp => ?_⟩
  obtain ⟨L', le, i, r⟩ := hr.newL hp (t.append t')
  exact q _ _ _ _ _ h le i r
/-- .. as a list that may change -/
theorem wo_catO {d e : D} {xs ys : List D} (h1 : TqD O d xs) (h2 : TqD O e ys) (hz : xs.length + ys.length ≤ sizeLine) (h : ∀ p, O p = none → k (.own p) (put O p (.lst (xs ++ ys)))) : WO X (binaryOp .Add) d e O k := fun vx vy L H ix iy hr Q q => by
  obtain ⟨a, vs, rfl, s, t⟩ := tqD_of hr h1 ix
  obtain ⟨b, us, rfl, s', t'⟩ := tqD_of hr h2 iy
  refine toO op_cat ⟨a, b, vs, us, rfl, rfl, s, s', by rw [t.length, t'.length]; exact hz, fun p hp => ?_⟩
  exact q _ _ _ _ _ (h p (hr.free hp).2.1) (.refl L) (.own p) (hr.newLO hp (t.append t'))
theorem wo_catT {xs ys : List D} (h0 : xs ≠ []) (h00 : ys ≠ []) (hz : xs.length + ys.length ≤ sizeLine) (h : k (.tup (xs ++ ys)) O) : WO X (binaryOp .Add) (.tup xs) (.tup ys) O k := fun vx vy L H ix iy hr Q q => by
  obtain ⟨a, vs, rfl, s, t⟩ := ix.tup'
  obtain ⟨b, us, rfl, s', t'⟩ := iy.tup'
  have e1 : vs ≠ [] := fun z => h0 (List.length_eq_zero_iff.mp (by rw [← t.length, z]; rfl))
  have e2 : us ≠ [] := fun z => h00 (List.length_eq_zero_iff.mp (by rw [← t'.length, z]; rfl))
  refine toO op_catT ⟨a, b, vs, us, rfl, rfl, hr.st s, hr.st s', e1, by rw [t.length, t'.length]; exact hz, fun z => absurd z e2, fun _ p hp => ?_⟩
  obtain ⟨L', le, i, r⟩ := hr.newT hp (t.append t')
  exact q _ _ _ _ _ h le i r

/-! ### == of data at any depth -/
mutual
def D.py : D → PyData
  | .non => .none
  | .bl b => .bool b
  | .int i => .int i
  | .str x => .str x
  | .lst ds => .list (D.pys ds)
  | .tup ds => .tuple (D.pys ds)
  | .scr ds => .list (D.pys ds)
  | _ => .dict []
def D.pys : List D → List PyData
  | [] => []
  | d :: ds => D.py d :: D.pys ds
end
mutual
def D.isPy : D → Bool
  | .non => true
  | .bl _ => true
  | .int _ => true
  | .str _ => true
  | .lst ds => D.arePy ds
  | .tup ds => D.arePy ds
  | .scr ds => D.arePy ds
  | _ => false
def D.arePy : List D → Bool
  | [] => true
  | d :: ds => D.isPy d && D.arePy ds
end
mutual
theorem Is.dp {K : PySem.W.Frag} {L : Lg} {O : Ow} {H : Hp} (r : R K L O H) : ∀ {v : V} {d : D}, Is K L v d → d.isPy = true → Dp K H v d.py
  | _, _, .non, _ => .non
  | _, _, .bl b, _ => .bl b
  | _, _, .int i, _ => .int i
  | _, _, .str x, _ => .str x
  | _, _, .lst h t, e => .lst (.inl (.inl (r.hp _ _ h))) (IsL.dp r t (by simpa [D.isPy] using e))
  | _, _, .scr h t, e => .lst (r.sq h) (IsL.dp r t (by simpa [D.isPy] using e))
  | _, _, .tup h t, e => .tup (r.st h) (IsL.dp r t (by simpa [D.isPy] using e))
  | _, _, .byt _, e => by simp [D.isPy] at e
  | _, _, .ty _, e => by simp [D.isPy] at e
  | _, _, .own _, e => by simp [D.isPy] at e
  | _, _, .box _, e => by simp [D.isPy] at e
  | _, _, .dic _ _ _, e => by simp [D.isPy] at e
  | _, _, .ins _ _ _, e => by simp [D.isPy] at e
theorem IsL.dp {K : PySem.W.Frag} {L : Lg} {O : Ow} {H : Hp} (r : R K L O H) : ∀ {vs : List V} {ds : List D}, IsL K L vs ds → D.arePy ds = true → DpAll K H vs (D.pys ds)
  | _, _, .nil, _ => .nil
  | _, _, .cons h t, e => by
    rw [D.arePy, Bool.and_eq_true] at e
    exact .cons (Is.dp r h e.1) (IsL.dp r t e.2)
end
theorem wo_eqD {d e : D} (hu : X.A.units + 64 < cLine) (h1 : d.isPy = true) (h2 : e.isPy = true) (s1 : SeqAt.shaped d.py = true) (s2 : SeqAt.shaped e.py = true) (h : k (.bl (PyData.eqv d.py e.py)) O) : WO X (compareOp .Eq) d e O k := fun vx vy L H ix iy hr Q q =>
  toO (op_eqD hu) ⟨d.py, e.py, ix.dp hr h1, iy.dp hr h2, s1, s2, q _ _ _ _ _ h (.refl L) (.bl _) hr⟩
theorem wo_neD {d e : D} (hu : X.A.units + 64 < cLine) (h1 : d.isPy = true) (h2 : e.isPy = true) (s1 : SeqAt.shaped d.py = true) (s2 : SeqAt.shaped e.py = true) (h : k (.bl (!PyData.eqv d.py e.py)) O) : WO X (compareOp .NotEq) d e O k := fun vx vy L H ix iy hr Q q =>
  toO (op_neD hu) ⟨d.py, e.py, ix.dp hr h1, iy.dp hr h2, s1, s2, q _ _ _ _ _ h (.refl L) (.bl _) hr⟩

/-! ### calls of built-ins by their names -/
structure Bn (X : Cx) (x : Str) (id : String) : Prop where
  hg : Gl X x
  hm : X.mg x = none
  hv : bootBuiltins x = some (.builtin id)
  hn : x ≠ "__name__"
  hd : (x == ("__debug__" : Str)) = false
structure Bt (X : Cx) (x : Str) (T : String) : Prop where
  hg : Gl X x
  hm : X.mg x = none
  hv : bootBuiltins x = some (.type T)
  hn : x ≠ "__name__"
  hd : (x == ("__debug__" : Str)) = false
theorem we_callB {x : Str} {id : String} {e : Expr} {es : List Expr} {p pos : Pos} (B : Bn X x id) (he : starEach (e :: es) X.env = (false, eval e X.env) :: starEach es X.env) (hpl : (backTo pos (starEach es X.env)).any (·.1) = false)
    (h : WA X (e :: es) Γ O fun ds O1 => WC X (.builtin id) ds O1 k) : WE X (.Call (.Name x p) (e :: es) [] pos) Γ O k := fun σ L H hs hr Q q => by
  refine toE (pe_callB (cu _) B.hg B.hm B.hv (pau _) B.hn B.hd he hpl) ?_
  exact h σ L H hs hr _ fun vs ds O1 L1 H1 h1 e1 i1 r1 => h1 vs L1 H1 i1 r1 Q (q.le e1)
theorem we_callT {x : Str} {T : String} {e : Expr} {es : List Expr} {p pos : Pos} (B : Bt X x T) (he : starEach (e :: es) X.env = (false, eval e X.env) :: starEach es X.env) (hpl : (backTo pos (starEach es X.env)).any (·.1) = false)
    (h : WA X (e :: es) Γ O fun ds O1 => WC X (.type T) ds O1 k) : WE X (.Call (.Name x p) (e :: es) [] pos) Γ O k := fun σ L H hs hr Q q => by
  refine toE (pe_callTy (cu _) B.hg B.hm B.hv (pau _) B.hn B.hd he hpl) ?_
  exact h σ L H hs hr _ fun vs ds O1 L1 H1 h1 e1 i1 r1 => h1 vs L1 H1 i1 r1 Q (q.le e1)
section
variable {L : Lg}
theorem IsL.one' {K : PySem.W.Frag} {vs : List V} {d : D} (h : IsL K L vs [d]) : ∃ v, vs = [v] ∧ Is K L v d := by
  cases h with
  | cons a t => cases t; exact ⟨_, rfl, a⟩
theorem IsL.two' {K : PySem.W.Frag} {vs : List V} {d e : D} (h : IsL K L vs [d, e]) : ∃ v u, vs = [v, u] ∧ Is K L v d ∧ Is K L u e := by
  cases h with
  | cons a t => obtain ⟨u, rfl, b⟩ := t.one'; exact ⟨_, u, rfl, a, b⟩
end
theorem wc_abs (h : k (.int (if i < 0 then -i else i)) O) : WC X (.builtin "abs") [.int i] O k := fun vs L H is hr Q q => by
  obtain ⟨v, rfl, a⟩ := is.one'
  exact toC call_abs ⟨i, by rw [a.int'], q _ _ _ _ _ h (.refl L) (.int _) hr⟩
theorem wc_max2 (hc : X.calm = true) (h : k (.int (if j > i then j else i)) O) : WC X (.builtin "max") [.int i, .int j] O k := fun vs L H is hr Q q => by
  obtain ⟨v, u, rfl, a, b⟩ := is.two'
  exact toC (call_max2 (X := X) hc) ⟨i, j, by rw [a.int', b.int'], q _ _ _ _ _ h (.refl L) (.int _) hr⟩
theorem wc_min2 (hc : X.calm = true) (h : k (.int (if j < i then j else i)) O) : WC X (.builtin "min") [.int i, .int j] O k := fun vs L H is hr Q q => by
  obtain ⟨v, u, rfl, a, b⟩ := is.two'
  exact toC (call_min2 (X := X) hc) ⟨i, j, by rw [a.int', b.int'], q _ _ _ _ _ h (.refl L) (.int _) hr⟩
theorem wc_int (h : k (.int i) O) : WC X (.type "int") [.int i] O k := fun vs L H is hr Q q => by
  obtain ⟨v, rfl, a⟩ := is.one'
  exact toC call_int1 (.inl ⟨i, by rw [a.int'], q _ _ _ _ _ h (.refl L) (.int _) hr⟩)
theorem wc_intB {b : Bool} (h : k (.int (if b then 1 else 0)) O) : WC X (.type "int") [.bl b] O k := fun vs L H is hr Q q => by
  obtain ⟨v, rfl, a⟩ := is.one'
  exact toC call_int1 (.inr ⟨b, by rw [a.bl'], q _ _ _ _ _ h (.refl L) (.int _) hr⟩)
theorem wc_intS {x : Str} {n : Int} (hx : PySem.intText? x = some n) (hl : x.length ≤ 640) (h : k (.int n) O) : WC X (.type "int") [.str x] O k := fun vs L H is hr Q q => by
  obtain ⟨v, rfl, a⟩ := is.one'
  exact toC call_int_str ⟨x, n, by rw [a.str'], hx, hl, q _ _ _ _ _ h (.refl L) (.int _) hr⟩
theorem wc_strI (hl : i.natAbs.log2 < 1920) (h : k (.str (toString i)) O) : WC X (.type "str") [.int i] O k := fun vs L H is hr Q q => by
  obtain ⟨v, rfl, a⟩ := is.one'
  exact toC call_str_int ⟨i, by rw [a.int'], hl, q _ _ _ _ _ h (.refl L) (.str _) hr⟩
theorem wc_lenL {d : D} {ds : List D} (hd : SqD O d ds) (h : k (.int ds.length) O) : WC X (.builtin "len") [d] O k := fun vs L H is hr Q q => by
  obtain ⟨v, rfl, a⟩ := is.one'
  obtain ⟨p, us, rfl, s, t⟩ := sqD_of hr hd a
  exact toC call_len_seq ⟨p, us, rfl, .inl s, by rw [t.length]; exact q _ _ _ _ _ h (.refl L) (.int _) hr⟩
theorem wc_lenT {ds : List D} (h : k (.int ds.length) O) : WC X (.builtin "len") [.tup ds] O k := fun vs L H is hr Q q => by
  obtain ⟨v, rfl, a⟩ := is.one'
  obtain ⟨p, us, rfl, s, t⟩ := a.tup'
  exact toC call_len_seq ⟨p, us, rfl, .inr (hr.st s), by rw [t.length]; exact q _ _ _ _ _ h (.refl L) (.int _) hr⟩
theorem wc_lenS {x : Str} (hl : x.length ≤ sizeLine) (h : k (.int x.length) O) : WC X (.builtin "len") [.str x] O k := fun vs L H is hr Q q => by
  obtain ⟨v, rfl, a⟩ := is.one'
  exact toC call_len_str ⟨x, by rw [a.str'], hl, q _ _ _ _ _ h (.refl L) (.int _) hr⟩
theorem wc_divmod (hc : 0 < j ∧ j < 1073741824) (h : k (.tup [.int (i / j), .int (i % j)]) O) : WC X (.builtin "divmod") [.int i, .int j] O k := fun vs L H is hr Q q => by
  obtain ⟨v, u, rfl, a, b⟩ := is.two'
  refine toC call_divmod ⟨i, j, by rw [a.int', b.int'], hc, fun p hp => ?_⟩
  obtain ⟨L', le, z, r⟩ := hr.newT (vs := [.int (i / j), .int (i % j)]) (ds := [.int (i / j), .int (i % j)]) hp (.cons (.int _) (.cons (.int _) .nil))
  exact q _ _ _ _ _ h le z r
theorem wc_listL {d : D} {ds : List D} (hd : SqD O d ds) (h : k (.lst ds) O) : WC X (.type "list") [d] O k := fun vs L H is hr Q q => by
  obtain ⟨v, rfl, a⟩ := is.one'
  obtain ⟨p, us, rfl, s, t⟩ := sqD_of hr hd a
  refine toC call_list_of ⟨p, us, rfl, .inl s, fun l hl => ?_⟩
  obtain ⟨L', le, z, r⟩ := hr.newL hl t
  exact q _ _ _ _ _ h le z r
theorem wc_listLO {d : D} {ds : List D} (hd : SqD O d ds) (h : ∀ p, O p = none → k (.own p) (put O p (.lst ds))) : WC X (.type "list") [d] O k := fun vs L H is hr Q q => by
  obtain ⟨v, rfl, a⟩ := is.one'
  obtain ⟨p, us, rfl, s, t⟩ := sqD_of hr hd a
  refine toC call_list_of ⟨p, us, rfl, .inl s, fun l hl => ?_⟩
  exact q _ _ _ _ _ (h l (hr.free hl).2.1) (.refl L) (.own l) (hr.newLO hl t)
theorem wc_listT {ds : List D} (h : k (.lst ds) O) : WC X (.type "list") [.tup ds] O k := fun vs L H is hr Q q => by
  obtain ⟨v, rfl, a⟩ := is.one'
  obtain ⟨p, us, rfl, s, t⟩ := a.tup'
  refine toC call_list_of ⟨p, us, rfl, .inr (hr.st s), fun l hl => ?_⟩
  obtain ⟨L', le, z, r⟩ := hr.newL hl t
  exact q _ _ _ _ _ h le z r
theorem wc_tupL {d : D} {ds : List D} (hd : SqD O d ds) (h : k (.tup ds) O) : WC X (.type "tuple") [d] O k := fun vs L H is hr Q q => by
  obtain ⟨v, rfl, a⟩ := is.one'
  obtain ⟨p, us, rfl, s, t⟩ := sqD_of hr hd a
  refine toC call_tuple_of ⟨p, us, rfl, .inl ⟨s, fun l hl => ?_⟩⟩
  obtain ⟨L', le, z, r⟩ := hr.newT hl t
  exact q _ _ _ _ _ h le z r
theorem wc_tupT {ds : List D} (h : k (.tup ds) O) : WC X (.type "tuple") [.tup ds] O k := fun vs L H is hr Q q => by
  obtain ⟨v, rfl, a⟩ := is.one'
  obtain ⟨p, us, rfl, s, t⟩ := a.tup'
  exact toC call_tuple_of ⟨p, us, rfl, .inr ⟨hr.st s, q _ _ _ _ _ h (.refl L) (.tup s t) hr⟩⟩
theorem isL_bl {K : PySem.W.Frag} {L : Lg} : ∀ {vs : List V} {bs : List Bool}, IsL K L vs (bs.map D.bl) → vs = bs.map V.bl
  | _, [], h => by cases h; rfl
  | _, b :: bs, h => by
    cases h with
    | cons a t => rw [a.bl', isL_bl t]; rfl
theorem isL_str {K : PySem.W.Frag} {L : Lg} : ∀ {vs : List V} {bs : List Str}, IsL K L vs (bs.map D.str) → vs = bs.map V.str
  | _, [], h => by cases h; rfl
  | _, b :: bs, h => by
    cases h with
    | cons a t => rw [a.str', isL_str t]; rfl
theorem isL_int {K : PySem.W.Frag} {L : Lg} : ∀ {vs : List V} {bs : List Int}, IsL K L vs (bs.map D.int) → vs = bs.map V.int
  | _, [], h => by cases h; rfl
  | _, b :: bs, h => by
    cases h with
    | cons a t => rw [a.int', isL_int t]; rfl
theorem is_strs {K : PySem.W.Frag} {L : Lg} : ∀ (bs : List Str), IsL K L (bs.map V.str) (bs.map D.str)
  | [] => .nil
  | b :: bs => .cons (.str b) (is_strs bs)
theorem is_ints {K : PySem.W.Frag} {L : Lg} : ∀ (bs : List Int), IsL K L (bs.map V.int) (bs.map D.int)
  | [] => .nil
  | b :: bs => .cons (.int b) (is_ints bs)
theorem wc_all {d : D} {bs : List Bool} (hc : X.calm = true) (hd : SqD O d (bs.map D.bl)) (h : k (.bl (bs.all id)) O) : WC X (.builtin "all") [d] O k := fun vs L H is hr Q q => by
  obtain ⟨v, rfl, a⟩ := is.one'
  obtain ⟨p, us, rfl, s, t⟩ := sqD_of hr hd a
  obtain rfl := isL_bl t
  exact toC (cr_all (X := X) hc) ⟨p, bs, rfl, s, q _ _ _ _ _ h (.refl L) (.bl _) hr⟩
theorem wc_any {d : D} {bs : List Bool} (hc : X.calm = true) (hd : SqD O d (bs.map D.bl)) (h : k (.bl (bs.any id)) O) : WC X (.builtin "any") [d] O k := fun vs L H is hr Q q => by
  obtain ⟨v, rfl, a⟩ := is.one'
  obtain ⟨p, us, rfl, s, t⟩ := sqD_of hr hd a
  obtain rfl := isL_bl t
  exact toC (cr_any (X := X) hc) ⟨p, bs, rfl, s, q _ _ _ _ _ h (.refl L) (.bl _) hr⟩
/-- isinstance -/
inductive TyD : D → String → Prop
  | non : TyD .non "NoneType"
  | bl (b : Bool) : TyD (.bl b) "bool"
  | int (n : Int) : TyD (.int n) "int"
  | str (x : Str) : TyD (.str x) "str"
  | byt (x : Array UInt8) : TyD (.byt x) "bytes"
  | lst (ds : List D) : TyD (.lst ds) "list"
  | tup (ds : List D) : TyD (.tup ds) "tuple"
  | dic (ds : List (Key × D)) : TyD (.dic ds) "dict"
theorem tyD_of {L : Lg} {H : Hp} (hr : R X.K L O H) {v : V} {d : D} {T : String} (h : TyD d T) (i : Is X.K L v d) : TyX X.K H v (.type T) := by
  cases h with
  | non => cases i; exact .base .non
  | bl b => cases i; exact .base (.bl b)
  | int b => cases i; exact .base (.int b)
  | str b => cases i; exact .base (.str b)
  | byt b => cases i; exact .byt b
  | lst ds => obtain ⟨a, vs, rfl, s, t⟩ := i.lst'; exact .base (.lst (hr.hp _ _ s))
  | tup ds =>
    obtain ⟨a, vs, rfl, s, t⟩ := i.tup'
    rcases hr.st s with (s | ⟨o, s⟩) | ⟨o, its, n, s1, s2, _⟩
    · exact .base (.tup s)
    · exact .fTuple s
    · exact .kTuple s1 s2
  | dic ds =>
    obtain ⟨a, kvs, rfl, s, t⟩ := i.dic'
    exact .base (.dK (hr.hp _ _ s))
theorem wc_isi {d : D} {T U : String} {b : Bool} (ht : TyD d T) (hk : kitB T U = some b) (h : k (.bl b) O) : WC X (.builtin "isinstance") [d, .ty U] O k := fun vs L H is hr Q q => by
  obtain ⟨v, u, rfl, a, c⟩ := is.two'
  obtain rfl := c.ty'
  exact toC call_isi ⟨v, .ty U, _, _, b, rfl, .ty U, tyD_of hr ht a, kit_ty hk, q _ _ _ _ _ h (.refl L) (.bl _) hr⟩
/-- isinstance(x, (T, U)) -/
theorem wc_isi2 {d : D} {T U1 U2 : String} {b1 b2 : Bool} (ht : TyD d T) (hk1 : kitB T U1 = some b1) (hk2 : kitB T U2 = some b2) (h : k (.bl (b1 || b2)) O) : WC X (.builtin "isinstance") [d, .tup [.ty U1, .ty U2]] O k := fun vs L H is hr Q q => by
  obtain ⟨v, u, rfl, a, c⟩ := is.two'
  obtain ⟨tp, cs, rfl, s, t⟩ := c.tup'
  obtain ⟨c1, c2, rfl, t1, t2⟩ := t.two'
  obtain rfl := t1.ty'
  obtain rfl := t2.ty'
  have hany : PySem.W.kitAny X.K (.type T) [.type U1, .type U2] = some (b1 || b2) := by
    refine kitAny_cons (kit_ty hk1) (fun e1 => ?_) (fun e1 => by rw [e1]; rfl)
    subst e1
    refine kitAny_cons (kit_ty hk2) (fun e2 => ?_) (fun e2 => by rw [e2]; rfl)
    subst e2
    exact kitAny_nil
  have fin := q _ _ _ _ _ h (.refl L) (.bl (b1 || b2)) hr
  rcases hr.st s with (s | ⟨o, s⟩) | ⟨o, its, n, s1, s2, s3, s4, s5⟩
  · exact toC call_isiT ⟨v, tp, _, _, [.type U1, .type U2], _, rfl, s, .cons (.ty _) (.cons (.ty _) .nil), tyD_of hr ht a, hany, fin⟩
  · exact fun pins s' σ us I rx => by
      obtain ⟨u1, u2, rfl, r1, r2⟩ := vals2 rx
      cases (show u2 =
          Value.ref tp from r2)
      obtain ⟨P, Z, pz, hx⟩ := kit_of I r1 (tyD_of hr ht a)
      obtain ⟨_, _, its, rv, o', h1, h2, n, h3⟩ := (show ObjOk X.prog X.w H s'.heap tp (.frz o (.tup [V.ty U1, V.ty U2])) from I.hok tp _ s)
      have e3 : its = [.type U1, .type U2] := by
        cases rv with
        | cons a1 rv => cases rv with
          | cons a2 rv => cases rv; cases a1; cases a2; rfl
      obtain ⟨oc, od, dt, sl⟩ := o'
      simp only at h2 h3
      subst h2 h3 e3
      exact PySem.W.kia_tup Z I.kIn pz h1 hany hx fun tk => ⟨.bl _, H, I.tok tk, rfl, fin⟩
  · have e3 : its.toList = [.type U1, .type U2] := by
      cases hb : its.toList with
      | nil => rw [hb] at s5; cases s5
      | cons a1 r1 =>
        rw [hb] at s5
        cases s5 with
        | cons z1 s5 => cases s5 with
          | cons z2 s5 => cases s5; cases z1; cases z2; rfl
    obtain ⟨oc, od, dt, sl⟩ := o
    simp only at s2 s3
    subst s2 s3
    refine toC call_isiK ⟨v, tp, od, [.type U1, .type U2], n, sl, _, _, rfl, ?_, tyD_of hr ht a, hany, fin⟩
    rw [s1, ← e3]
end
end DL
/-! DL, part E: subscripts, attributes, methods, stores, loops, comprehensions over data -/
namespace DL
open PySem PySem.Spec PyProof.Rows L2 RZ

def uI (X : Cx) : R2 := fun x y H Q => ∀ value slice pins s σ v u, Inv X pins σ H s → RelV x v → RelV y u → subscripted slice false v u = operate [v, u] (getItem v u) → wpAny (model X.prog X.w) X.A (subscriptTail value slice v u) (EP X pins σ Q) X.xe s
def uM (X : Cx) (id : String) : V → List V → Hp → VK → Prop := fun x xs H Q => ∀ pins s σ v us, Inv X pins σ H s → RelV x v → Vals xs us → wpAny (model X.prog X.w) X.A (call (.builtin id) (v :: us)) (EP X pins σ Q) X.xe s
def uG (X : Cx) (tg : Expr) : TG := fun v σ H q => ∀ pins s u, Inv X pins σ H s → RelV v u → wpAny (model X.prog X.w) X.A (assign tg X.env u) (fun _ s' => ∃ σ' H', Inv X pins σ' H' s' ∧ q σ' H') X.xe s
def uGs (X : Cx) (ts : List Expr) : TGs := fun vs σ H q => ∀ pins s us, Inv X pins σ H s → Vals vs us → wpAny (model X.prog X.w) X.A (assignInOrder ((assignEach ts X.env).map (·.2)) us) (fun _ s' => ∃ σ' H', Inv X pins σ' H' s' ∧ q σ' H') X.xe s
section
variable {X : Cx} {σ : L2.St} {H : Hp}
theorem iu : IxR X (uI X) := fun value slice pins s σ H x y v u Q I rx ry h hs => h value slice pins s σ v u I rx ry hs
theorem mu (id : String) : MtR X id (uM X id) := fun pins s σ H x xs v us Q I rx rs h => h pins s σ v us I rx rs
theorem pgu (tg : Expr) : PG X tg (uG X tg) := ⟨fun pins s σ H v u Q I r h => h pins s u I r⟩
theorem pgsu (ts : List Expr) : PGs X ts (uGs X ts) := ⟨fun pins s σ H vs us Q I r h => h pins s us I r⟩
theorem toI {r : R2} (h : IxR X r) {x y : V} {Q : VK} (q : r x y H Q) : uI X x y H Q := fun value slice pins s σ v u I rx ry hs => h value slice pins s σ H x y v u Q I rx ry q hs
theorem toM {id : String} {r : V → List V → Hp → VK → Prop} (h : MtR X id r) {x : V} {xs : List V} {Q : VK} (q : r x xs H Q) : uM X id x xs H Q := fun pins s σ v us I rx rs => h pins s σ H x xs v us Q I rx rs q
theorem toG {tg : Expr} {t : TG} (h : PG X tg t) {v : V} {q} (z : t v σ H q) : uG X tg v σ H q := fun pins s u I r => h.run pins s σ H v u q I r z
theorem toGs {ts : List Expr} {t : TGs} (h : PGs X ts t) {vs : List V} {q} (z : t vs σ H q) : uGs X ts vs σ H q := fun pins s us I r => h.run pins s σ H vs us q I r z
end
def WI (X : Cx) (x y : D) (O : Ow) (k : KD) : Prop := ∀ vx vy L H, Is X.K L vx x → Is X.K L vy y → R X.K L O H → ∀ Q, Fol X.K L k Q → uI X vx vy H Q
def WM (X : Cx) (id : String) (x : D) (ds : List D) (O : Ow) (k : KD) : Prop := ∀ vx vs L H, Is X.K L vx x → IsL X.K L vs ds → R X.K L O H → ∀ Q, Fol X.K L k Q → uM X id vx vs H Q
def WG (X : Cx) (tg : Expr) (d : D) (Γ : Sg) (O : Ow) (k : Sg → Ow → Prop) : Prop := ∀ v σ L H, Is X.K L v d → Sl X.K L σ Γ → R X.K L O H → ∀ q, FolN X.K L k q → uG X tg v σ H q
def WGs (X : Cx) (ts : List Expr) (ds : List D) (Γ : Sg) (O : Ow) (k : Sg → Ow → Prop) : Prop := ∀ vs σ L H, IsL X.K L vs ds → Sl X.K L σ Γ → R X.K L O H → ∀ q, FolN X.K L k q → uGs X ts vs σ H q

theorem atI_is {K : PySem.W.Frag} {L : Lg} {vs : List V} {ds : List D} {i : Int} {d : D} (h : IsL K L vs ds) (e : atI ds i = some d) : ∃ v, atI vs i = some v ∧ Is K L v d := by
  unfold atI at e ⊢
  rw [h.length]
  cases q : ixN ds.length i with
  | none => rw [q]
        at e; cases e
  | some j =>
    rw [q] at e
    exact h.get e

section
variable {X : Cx} {Γ : Sg} {O : Ow} {k : KD}
/-! ### subscripts -/
theorem we_ix {a b pos} (hb : PlainIx b) (h : WE X a Γ O fun x O1 => WE X b Γ O1 fun y O2 => WI X x y O2 k) : WE X (.Subscript a b pos) Γ O k := fun σ L H hs hr Q q => by
  refine toE (pe_ix iu (pu a) (pu b) hb) ?_
  refine h σ L H hs hr _ fun x dx O1 L1 H1 h1 e1 i1 r1 => ?_
  refine h1 σ L1 H1 (hs.mono e1) r1 _ fun y dy O2 L2 H2 h2 e2 i2 r2 => ?_
  exact h2 x y L2 H2 (i1.mono e2) i2 r2 Q (q.le (e1.trans e2))
theorem wi_list {d e : D} {ds : List D} {i : Int} (hd : SqD O d ds) (he : atI ds i = some e) (h : k e O) : WI X d (.int i) O k := fun vx vy L H ix iy hr Q q => by
  obtain ⟨a, vs, rfl, s, t⟩ := sqD_of hr hd ix
  obtain ⟨v, e1, e2⟩ := atI_is t he
  exact toI ix_list ⟨a, vs, i, v, rfl, iy.int', s, e1, q _ _ _ _ _ h (.refl L) e2 hr⟩
theorem wi_tup {e : D} {ds : List D} {i : Int} (he : atI ds i = some e) (h : k e O) : WI X (.tup ds) (.int i) O k := fun vx vy L H ix iy hr Q q => by
  obtain ⟨a, vs, rfl, s, t⟩ := ix.tup'
  obtain ⟨v, e1, e2⟩ := atI_is t he
  exact toI ix_tup ⟨a, vs, i, v, rfl, iy.int', hr.st s, e1, q _ _ _ _ _ h (.refl L) e2 hr⟩
theorem wi_str {z : Str} {i : Int} {c : Nat} (hz : z.length ≤ sizeLine) (he : atI z.cps.toList i = some c) (h : k (.str ⟨#[c]⟩) O) : WI X (.str z) (.int i) O k := fun vx vy L H ix iy hr Q q =>
  toI ix_str ⟨z, i, c, ix.str', iy.int', hz, he, q _ _ _ _ _ h (.refl L) (.str _) hr⟩
/-- the key of a datum -/
def kD : Key → D
  | .inl i => .int i
  | .inr x => .str x
theorem kD_is {K : PySem.W.Frag} {L : Lg} {v : V} {y : Key} (h : Is K L v (kD y)) : v = kV y := by
  cases y with
  | inl i => exact h.int'
  | inr x => exact h.str'
/-- a datum that reads as a dict -/
def DcD (O : Ow) (d : D) (kds : List (Key × D)) : Prop := d = .dic kds ∨ ∃ p, d = .own p ∧ O p = some (.dic kds)
theorem dcD_of {K : PySem.W.Frag} {L : Lg} {H : Hp} (r : R K L O H) {v : V} {d : D} {kds : List (Key × D)} (h : DcD O d kds) (i : Is K L v d) : ∃ a kvs, v = .ref a ∧ H a = some (.dK kvs) ∧ kvs.map (·.1) = kds.map (·.1) ∧ IsL K L (kvs.map (·.2)) (kds.map (·.2)) := by
  rcases h with rfl | ⟨p, rfl, h⟩
  · obtain ⟨a, vs, e, h1, h2, h3⟩ := i.dic'
    exact ⟨a, vs, e, r.hp _ _ h1, h2, h3⟩
  · obtain ⟨vs, h1, h2, h3⟩ := own_dic r h
    exact ⟨p, vs, i.own', h1, h2, h3⟩
theorem we_dget {o i : Expr} {pos} (hu : X.A.units + 1 < cLine) (hn : NoSl i) (h : WE X o Γ O fun x O1 => WE X i Γ O1 fun y O2 => ∃ kds y' e, DcD O2 x kds ∧ y = kD y' ∧ valD kds y' = some e ∧ k e O2) : WE X (.Subscript o i pos) Γ O k := fun σ L H hs hr Q q => by
  refine toE (pe_dget hu (pu o) (pu i) hn) ?_
  refine h σ L H hs hr _ fun x dx O1 L1 H1 h1 e1 i1 r1 => ?_
  refine h1 σ L1 H1 (hs.mono e1) r1 _ fun y dy O2 L2 H2 h2 e2 i2 r2 => ?_
  obtain ⟨kds, y', e, hd, rfl, hv, h3⟩ := h2
  obtain ⟨a, kvs, rfl, s1, s2, s3⟩ := dcD_of r2 hd (i1.mono e2)
  obtain ⟨v, g1, g2⟩ := (kv_val s2 s3 y').1 e hv
  refine ⟨a, v, rfl, ?_, q _ _ _ _ _ h3 (e1.trans e2) g2 r2⟩
  rw [kD_is i2]
  exact .inl ⟨kvs, y', .inl s1, rfl, g1.symm⟩
/-- e[lo:hi] -/
def uSl (X : Cx) : V → Option Int → Option Int → Hp → VK → Prop := fun x lo hi H Q => ∀ pins s σ v vl vu sl, Inv X pins σ H s → RelV x v → s.heap.IsSliceOf sl vl vu .none → IsPart vl lo → IsPart vu hi →
  ∃ T id, typeLookup (.type T) "__getitem__" = pure (some (.builtin
      id)) ∧ s.TypeIs v T ∧ wpAny (model X.prog X.w) X.A (getItem v (.ref sl)) (EP X pins σ Q) X.xe s
theorem slu : SlR X (uSl X) := fun pins s σ H x v vl vu lo hi sl Q I rx hs pl pu h => h pins s σ v vl vu sl I rx hs pl pu
theorem toSl {r} (h : SlR X r) {H : Hp} {x : V} {lo hi : Option Int} {Q : VK} (q : r x lo hi H Q) : uSl X x lo hi H Q := fun pins s σ v vl vu sl I rx hs pl pu => h pins s σ H x v vl vu lo hi sl Q I rx hs pl pu q
/-- a part of a slice -/
def WP (X : Cx) (p : Option Expr) (Γ : Sg) (O : Ow) (kp : Option Int → Ow → Prop) : Prop := match p with
  | none => kp none O
  | some e => WE X e Γ O fun d O1 => ∃ i, d = .int i ∧ kp (some i) O1
def WSl (X : Cx) (x : D) (lo hi : Option Int) (O : Ow) (k : KD) : Prop := ∀ vx L H, Is X.K L vx x → R X.K L O H → ∀ Q, Fol X.K L k Q → uSl X vx lo hi H Q
theorem po_univ (p : Option Expr) : ∃ t : TO, PO X p t ∧ ∀ Γ O kp, WP X p Γ O kp → ∀ σ L H, Sl X.K L σ Γ → R X.K L O H → ∀ Q : Option Int → Hp → Prop, (∀ l O' L' H', kp l O' → L.le L' → R X.K L' O' H' → Q l H') → t σ H Q := by
  cases p with
  | none => exact ⟨_, po_none, fun Γ O kp h σ L H hs hr Q q => q _ _ _ _ h (.refl L) hr⟩
  | some e =>
    refine ⟨_, po_some (pu e), fun Γ O kp h σ L H hs hr Q q => ?_⟩
    refine (show WE X e Γ O fun d O1 => ∃ i, d = .int i ∧ kp (some i) O1 from h) σ L H hs hr _ fun v d O1 L1 H1 h1 e1 i1 r1 => ?_
    obtain ⟨i, rfl, h1⟩ := h1
    exact ⟨i, i1.int', q _ _ _ _ h1 e1 r1⟩
theorem we_slice {e : Expr} {lo hi : Option Expr} {p2 pos} (h : WE X e Γ O fun x O1 => WP X lo Γ O1 fun l O2 => WP X hi Γ O2 fun u O3 => WSl X x l u O3 k) : WE X (.Subscript e (.Slice lo hi none p2) pos) Γ O k := fun σ L H hs hr Q q => by
  obtain ⟨tl, hl, gl⟩ := po_univ (X := X) lo
  obtain ⟨th, hh, gh⟩ := po_univ (X := X) hi
  refine toE (pe_slice slu (pu e) hl hh) ?_
  refine h σ L H hs hr _ fun x dx O1 L1 H1 h1 e1 i1 r1 => ?_
  refine gl _ _ _ h1 σ L1 H1 (hs.mono e1) r1 _ fun l O2 L2 H2 h2 e2 r2 => ?_
  refine gh _ _ _ h2 σ L2 H2 ((hs.mono e1).mono e2) r2 _ fun u O3 L3 H3 h3 e3 r3 => ?_
  exact h3 x L3 H3 (i1.mono (e2.trans e3)) r3 Q (q.le ((e1.trans e2).trans e3))
/-- the slice of a list of data -/
def cutD (xs : List D) (lo hi : Option Int) : List D := (xs.drop (HT.sIx xs.length 0 lo)).take (HT.sIx xs.length xs.length hi - HT.sIx xs.length 0 lo)
theorem cut_is {K : PySem.W.Frag} {L : Lg} {vs : List V} {ds : List D} (h : IsL K L vs ds) (lo hi : Option Int) : IsL K L (cutV vs lo hi) (cutD ds lo hi) := by
  unfold cutV cutD
  rw [h.length]
  exact (h.drop _).take _
theorem wsl_list {d : D} {ds : List D} {lo hi : Option Int} (hd : SqD O d ds) (h : k (.lst (cutD ds lo hi)) O) : WSl X d lo hi O k := fun vx L H ix hr Q q => by
  obtain ⟨a, vs, rfl, s, t⟩ := sqD_of hr hd ix
  refine toSl sl_list ⟨a, vs, rfl, s, fun p hp => ?_⟩
  obtain ⟨L', le, i, r⟩ := hr.newL hp (cut_is t lo hi)
  exact q _ _ _ _ _ h le i r
theorem wsl_str {z : Str} {lo hi : Option Int} (hz : z.length ≤ sizeLine) (h : k (.str (cutS z lo hi)) O) : WSl X (.str z) lo hi O k := fun vx L H ix hr Q q =>
  toSl sl_str ⟨z, ix.str', hz, q _ _ _ _ _ h (.refl L) (.str _) hr⟩

/-! ### attributes -/
/-- a datum that is one of a class, with these attributes -/
def InD (O : Ow) (d : D) (C : Addr) (fds : List (Str × D)) : Prop := d = .ins C fds ∨ ∃ p, d = .own p ∧ O p = some (.ins C fds)
theorem inD_of {K : PySem.W.Frag} {L : Lg} {H : Hp} (r : R K L O H) {v : V} {d : D} {C : Addr} {fds : List (Str × D)} (h : InD O d C fds) (i : Is K L v d) : ∃ a dx fs, v = .ref a ∧ H a = some (.ins C dx fs) ∧ fs.map (·.1) = fds.map (·.1) ∧ IsL K L (fs.map (·.2)) (fds.map (·.2)) := by
  rcases h with rfl | ⟨p, rfl, h⟩
  · obtain ⟨a, dx, vs, e, h1, h2, h3⟩ := i.ins'
    exact ⟨a, dx, vs, e, r.hp _ _ h1, h2, h3⟩
  · obtain ⟨dx, vs, h1, h2, h3⟩ := own_ins r h
    exact ⟨p, dx, vs, i.own', h1, h2, h3⟩
theorem lookup_is {K : PySem.W.Frag} {L : Lg} : ∀ {fs : List (Str × V)} {fds : List (Str × D)} {f : Str}, fs.map (·.1) = fds.map (·.1) → IsL K L (fs.map (·.2)) (fds.map (·.2)) → (∀ d, fds.lookup f = some d → ∃ v, fs.lookup f = some v ∧ Is K L v d) ∧ (fds.lookup f = none → fs.lookup f = none)
  | [], [], _, _, _ => ⟨fun d e => by simp at e, fun _ => rfl⟩
  | (a, v) :: fs, (b, d) :: fds, f, e, h => by
    simp only [List.map_cons,
        List.cons.injEq] at e
    obtain ⟨e1, e2⟩ := e
    subst e1
    rw [List.map_cons,
        List.map_cons] at h
    cases h with
    | cons h1 h2 =>
      have ih := lookup_is (f := f) e2 h2
      cases c : f == a with
      | true =>
        refine ⟨fun d' q => ?_, fun q => ?_⟩
        · rw [List.lookup_cons, c] at q
          have q' : d = d' := Option.some.inj q
          subst q'
          exact ⟨v, by rw [List.lookup_cons, c], h1⟩
        · rw [List.lookup_cons, c] at q
          cases q
      | false =>
        refine ⟨fun d' q => ?_, fun q => ?_⟩
        · rw [List.lookup_cons, c] at q
          obtain ⟨v', a1, a2⟩ := ih.1 d' q
          exact ⟨v', by rw [List.lookup_cons, c]; exact a1, a2⟩
        · rw [List.lookup_cons, c] at q
          rw [List.lookup_cons, c]; exact ih.2 q
  | [], _ :: _, _, e, _ => by simp at e
  | _ :: _, [], _, e, _ => by simp at e
theorem we_fld {e : Expr} {f : Str} {pos} (hb : attributeBase e f X.env (eval e X.env) = eval e X.env) (h : WE X e Γ O fun x O1 => ∃ C fds d, InD O1 x C fds ∧ Cls X.K C ∧ NoAttr X.K C f ∧ fds.lookup f = some d ∧ k d O1) : WE X (.Attribute e f pos) Γ O k := fun σ L H hs hr Q q => by
  refine toE (pe_fld (pu e) hb) ?_
  refine h σ L H hs hr _ fun x dx O1 L1 H1 h1 e1 i1 r1 => ?_
  obtain ⟨C, fds, d, hi, hc, hn, hl, h2⟩ := h1
  obtain ⟨a, dx, fs, rfl, s1, s2, s3⟩ := inD_of r1 hi i1
  obtain ⟨v, g1, g2⟩ := (lookup_is s2 s3).1 d hl
  exact ⟨a, C, dx, fs, v, rfl, s1, hc, hn, g1, q _ _ _ _ _ h2 e1 g2 r1⟩

/-! ### methods of built-in types -/
def TyM (O : Ow) (x : D) (T : String) : Prop := match x with
  | .str _ => T = "str"
  | .int _ => T = "int"
  | d => (T = "list" ∧ ∃ ds, SqD O d ds) ∨ (T = "dict" ∧ ∃ kds, DcD O d kds)
theorem tyM_of {L : Lg} {H : Hp} (hr : R X.K L O H) {v : V} {d : D} {T : String} (h : TyM O d T) (i : Is X.K L v d) : tyV X.K T v H := by
  have main : ((T = "list" ∧ ∃ ds, SqD O d ds) ∨ (T = "dict" ∧ ∃ kds, DcD O d kds)) → tyV X.K T v H := fun z => by
    rcases z with ⟨e, ds, z⟩ | ⟨e, kds, z⟩
    · obtain ⟨a, vs, rfl, s, _⟩ := sqD_of hr z i
      exact .inl ⟨e, vs, s⟩
    · obtain ⟨a, kvs, rfl, s, _⟩ := dcD_of hr z i
      exact .inr (.inr (.inl ⟨e, .inl ⟨kvs, s⟩⟩))
  cases d with
  | str x => obtain rfl := i.str'; exact h
  | int x => obtain rfl := i.int'; exact h
  | non => exact main h
  | bl _ => exact main h
  | byt _ => exact main h
  | ty _ => exact main h
  | own _ => exact main h
  | box => exact main h
  | lst _ => exact main h
  | tup _ => exact main h
  | dic _ => exact main h
  | ins _ _ => exact main h
  | scr _ => exact main h
  | exc _ _ _ => exact main h
  | any => exact main h
  | deal => exact main h
  | nums => exact main h
theorem we_bm {T id : String} {name : Str} {o e : Expr} {es : List Expr} {apos cpos : Pos} (pa : PlainAttrs T) (slot : Slot T name id) (hty : typeOf (.builtin id) = pure (.type "method_descriptor"))
    (hbase : attributeBase o name X.env (eval o X.env) = eval o X.env)
    (hfew : ((backTo cpos (starEach (e :: es) X.env)).all (fun x => !x.1) && (backToKw cpos (keywordEach [] X.env)).all (fun x => x.1.isSome) && decide ((e :: es).length + ([] : List Keyword).length + (if ([] : List Keyword).isEmpty then 0 else 1) < 30)) = true)
    (hline : (apos.endLine == cpos.line) = true) (hs : starEach (e :: es) X.env = (false, eval e X.env) :: starEach es X.env) (hplain : (backTo cpos (starEach es X.env)).any (·.1) = false)
    (h : WE X o Γ O fun x O1 => TyM O1 x T ∧ WA X (e :: es) Γ O1 fun ds O2 => WM X id x ds O2 k) : WE X (.Call (.Attribute o name apos) (e :: es) [] cpos) Γ O k := fun σ L H hss hr Q q => by
  refine toE (pe_bm pa slot hty (mu id) (pu o) (pau _) hbase hfew hline hs hplain) ?_
  refine h σ L H hss hr _ fun x dx O1 L1 H1 h1 e1 i1 r1 => ⟨tyM_of r1 h1.1 i1, ?_⟩
  refine h1.2 σ L1 H1 (hss.mono e1) r1 _ fun vs ds O2 L2 H2 h2 e2 i2 r2 => ?_
  exact h2 x vs L2 H2 (i1.mono e2) i2 r2 Q (q.le (e1.trans e2))
theorem we_bm0 {T id : String} {name : Str} {o : Expr} {apos cpos : Pos} (pa : PlainAttrs T) (slot : Slot T name id) (hty : typeOf (.builtin id) = pure (.type "method_descriptor"))
    (hbase : attributeBase o name X.env (eval o X.env) = eval o X.env) (hline : (apos.endLine == cpos.line) = true)
    (h : WE X o Γ O fun x O1 => TyM O1 x T ∧ WM X id x [] O1 k) : WE X (.Call (.Attribute o name apos) [] [] cpos) Γ O k := fun σ L H hss hr Q q => by
  refine toE (pe_bm0 pa slot hty (mu id) (pu o) hbase hline) ?_
  refine h σ L H hss hr _ fun x dx O1 L1 H1 h1 e1 i1 r1 => ⟨tyM_of r1 h1.1 i1, ?_⟩
  exact h1.2 x [] L1 H1 i1 .nil r1 Q (q.le e1)
theorem wm_append {p : Addr} {ds : List D} {d : D} (ho : O p = some (.lst ds)) (hz : ds.length < sizeLine) (h : k .non (put O p (.lst (ds ++ [d])))) : WM X "list.append" (.own p) [d] O k := fun vx vs L H ix is hr Q q => by
  obtain ⟨v, rfl, i1⟩ := is.one'
  obtain ⟨xs, h1, h2⟩ := own_lst hr ho
  obtain rfl := ix.own'
  refine toM mt_append ⟨p, xs, v, rfl, rfl, h1, by rw [h2.length]; exact hz, ?_⟩
  exact q _ _ _ _ _ h (.refl L) .non (hr.change ho ⟨_, upd_same, h2.append (.cons i1 .nil)⟩)
theorem wm_popAt {p : Addr} {ds : List D} {i : Int} {j : Nat} {d : D} (ho : O p = some (.lst ds)) (h1 : -(2 ^ 63) ≤ i) (h2 : i < 2 ^ 63) (hj : seqIndex? i ds.length = some j) (hd : ds[j]? = some d) (h : k d (put O p (.lst (ds.eraseIdx j)))) : WM X "list.pop" (.own p) [.int i] O k := fun vx vs L H ix is hr Q q => by
  obtain ⟨v, rfl, i1⟩ := is.one'
  obtain ⟨xs, g1, g2⟩ := own_lst hr ho
  obtain rfl := ix.own'
  obtain ⟨v', e1, e2⟩ := g2.get hd
  refine toM mt_popAt ⟨p, xs, i, j, v', rfl, by rw [i1.int'], g1, h1, h2, by rw [g2.length]; exact hj, e1, ?_⟩
  exact q _ _ _ _ _ h (.refl L) e2 (hr.change ho ⟨_, upd_same, g2.eraseIdx j⟩)

/-! ### targets -/
variable {kn : Sg → Ow → Prop}
theorem wg_name {x : Str} {i : Nat} {d : D} {pos} (hx : Vs X x i) (h : kn (Γ.set i (some d)) O) : WG X (.Name x pos) d Γ O kn := fun v σ L H iv hs hr q hq =>
  toG (pg_name hx.nd hx.hN hx.hl hx.hf) (hq _ _ _ _ _ h (.refl L) (hs.set iv i) hr)
theorem wgs_nil (h : kn Γ O) : WGs X [] [] Γ O kn := fun vs σ L H iv hs hr q hq => by
  cases iv
  exact toGs pgs_nil ⟨rfl, hq _ _ _ _ _ h (.refl L) hs hr⟩
theorem wgs_cons {e : Expr} {es : List Expr} {d : D} {ds : List D} (hst : (assignEach (e :: es) X.env).map (·.2) = assign e X.env :: (assignEach es X.env).map (·.2)) (h : WG X e d Γ O fun Γ1 O1 => WGs X es ds Γ1 O1 kn) : WGs X (e :: es) (d :: ds) Γ O kn := fun vs σ L H iv hs hr q hq => by
  cases iv with
  | cons i1 i2 =>
    refine toGs (pgs_cons (pgu e) (pgsu es) hst) ⟨_, _, rfl, ?_⟩
    refine h _ σ L H i1 hs hr _ fun Γ1 O1 σ1 L1 H1 h1 e1 s1 r1 => ?_
    exact h1 _ σ1 L1 H1 (i2.mono e1) s1 r1 q (hq.le e1)
theorem wg_tup {es : List Expr} {kk : Nat} {ds : List D} {pos} (hc : X.calm = true) (hn : (assignEach es X.env).length = ds.length) (hst : (assignEach es X.env).findIdx? (·.1) = none) (h : WGs X es ds Γ O kn) : WG X (.Tuple es kk pos) (.tup ds) Γ O kn := fun v σ L H iv hs hr q hq => by
  obtain ⟨a, vs, rfl, s, t⟩ := iv.tup'
  refine toG (pg_tup (n := ds.length) hc (pgsu es) hn hst) ⟨a, vs, rfl, hr.st s, t.length, ?_⟩
  exact h vs σ L H t hs hr q hq
/-! ### stores -/
variable {De : DE}
theorem ws_asg {tg e : Expr} {pos : Pos} (hsw : swapsWithSole [tg] e pos.line X.env = pure false) (hw : swappedStores [tg] e X.env = pure none) (h1 : (assignEach [tg] X.env).map (·.2) = [assign tg X.env]) (h : WE X e Γ O fun d O1 => WG X tg d Γ O1 De.nx) : WS X (.Assign [tg] e pos) Γ O De := fun σ L H hs hr E q => by
  refine toS (ps_asg (pu e) (pgu tg) hsw hw h1) ?_
  refine h σ L H hs hr _ fun v d O1 L1 H1 h1 e1 i1 r1 => ?_
  exact h1 v σ L1 H1 i1 (hs.mono e1) r1 _ (q.nx.le e1)
theorem wg_setL {o i : Expr} {d : D} {pos : Pos} (ha : ∀ v, assign (.Subscript o i pos) X.env v = (do
      let o1 ← holding [v] (eval o X.env)
      let i1 ← holding [v, o1] (eval i X.env)
      standAt pos
      holding [v, o1, i1] (setItem o1 i1 v)
      release [v, o1, i1] [])) (h : WE X o Γ O fun x O1 => WE X i Γ O1 fun y O2 => ∃ p ds n j, x = .own p ∧ y = .int n ∧ O2 p = some (.lst ds) ∧ ixN ds.length n = some j ∧ kn Γ (put O2 p (.lst (ds.set j d)))) : WG X (.Subscript o i pos) d Γ O kn := fun v σ L H iv hs hr q hq => by
  refine toG (pg_sub (pu o) (pu i) set_list ha) ?_
  refine h σ L H hs hr _ fun x dx O1 L1 H1 h1 e1 i1 r1 => ?_
  refine h1 σ L1 H1 (hs.mono e1) r1 _ fun y dy O2 L2 H2 h2 e2 i2 r2 => ?_
  obtain ⟨p, ds, n, j, rfl, rfl, ho, hj, h3⟩ := h2
  obtain ⟨xs, g1, g2⟩ := own_lst r2 ho
  refine ⟨p, xs, n, j, (i1.mono e2).own', i2.int', g1, by rw [g2.length]; exact hj, ?_⟩
  exact hq _ _ _ _ _ h3 (e1.trans e2) (hs.mono (e1.trans e2)) (r2.change ho ⟨_, upd_same, g2.set (iv.mono (e1.trans e2)) j⟩)
/-- a pair put into a dict -/
def putDk (kds : List (Key × D)) (y : Key) (d : D) : List (Key × D) := if (kds.any fun p => decide (p.1 = y)) = true then kds.map (fun p => if p.1 = y then (p.1, d) else p) else kds ++ [(y, d)]
theorem any_keys {κ : Type} [DecidableEq κ] {α β : Type} (y : κ) : ∀ {l : List (κ × α)} {m : List (κ × β)}, l.map (·.1) = m.map (·.1) → (l.any fun p => decide (p.1 = y)) = (m.any fun p => decide (p.1 = y))
  | [], [], _ => rfl
  | (a, _) :: l, (b, _) :: m, e => by
    simp only [List.map_cons,
        List.cons.injEq] at e
    obtain ⟨e1, e2⟩ := e
    subst e1
    rw [List.any_cons, List.any_cons, any_keys y e2]
  | [], _ :: _, e
        => by simp at e
  | _ :: _, [], e
        => by simp at e
theorem put_keys {K : PySem.W.Frag} {L : Lg} {v : V} {d : D} (hv : Is K L v d) (y : Key) : ∀ {l : List (Key × V)} {m : List (Key × D)}, l.map (·.1) = m.map (·.1) → IsL K L (l.map (·.2)) (m.map (·.2)) →
    (l.map fun p => if p.1 = y then (p.1, v) else p).map (·.1) = (m.map fun p => if p.1 = y then (p.1, d) else p).map (·.1) ∧ IsL K L ((l.map fun p => if p.1 = y then (p.1, v) else p).map (·.2)) ((m.map fun p => if p.1 = y then (p.1, d) else p).map (·.2))
  | [], [], _, _ => ⟨rfl, .nil⟩
  | (a, u) :: l, (b, e) :: m, h, t => by
    simp only [List.map_cons,
        List.cons.injEq] at h
    obtain ⟨h1, h2⟩ := h
    subst h1
    rw [List.map_cons, List.map_cons] at t
    cases t with
    | cons t1 t2 =>
      obtain ⟨i1, i2⟩ := put_keys hv y h2 t2
      by_cases c : a = y
      · simp only [List.map_cons, if_pos c]
        exact ⟨congrArg _ i1, .cons hv i2⟩
      · simp only [List.map_cons, if_neg c]
        exact ⟨congrArg _ i1, .cons t1 i2⟩
  | [], _ :: _, h,
        _ => by simp at h
  | _ :: _, [], h,
        _ => by simp at h
theorem putK_is {K : PySem.W.Frag} {L : Lg} {v : V} {d : D} (hv : Is K L v d) (y : Key) {l : List (Key × V)} {m : List (Key × D)} (h : l.map (·.1) = m.map (·.1)) (t : IsL K L (l.map (·.2)) (m.map (·.2))) :
    (putK l y v).map (·.1) = (putDk m y d).map (·.1) ∧ IsL K L ((putK l y v).map (·.2)) ((putDk m y d).map (·.2)) := by
  unfold putK putDk
  rw [any_keys y h]
  split
  · exact put_keys hv y h t
  · refine ⟨by rw [List.map_append, List.map_append, h]; rfl, ?_⟩
    rw [List.map_append, List.map_append]
    exact t.append (.cons hv .nil)
theorem ws_dput {o i value : Expr} {pos pos' : Pos} (hu : X.A.units + 1 < cLine) (hsw : swapsWith value (some (.Subscript o i pos')) pos.line X.env = pure false)
    (h : WE X value Γ O fun d O1 => WE X o Γ O1 fun x O2 => WE X i Γ O2 fun y O3 => ∃ p kds y', x = .own p ∧ y = kD y' ∧ O3 p = some (.dic kds) ∧ kds.length < sizeLine ∧ De.nx Γ (put O3 p (.dic (putDk kds y' d)))) : WS X (.Assign [.Subscript o i pos'] value pos) Γ O De := fun σ L H hs hr E q => by
  refine toS (ps_dput hu (pu o) (pu i) (pu value) hsw) ?_
  refine h σ L H hs hr _ fun v d O1 L1 H1 h1 e1 i1 r1 => ?_
  refine h1 σ L1 H1 (hs.mono e1) r1 _ fun x dx O2 L2 H2 h2 e2 i2 r2 => ?_
  refine h2 σ L2 H2 (hs.mono (e1.trans e2)) r2 _ fun y dy O3 L3 H3 h3 e3 i3 r3 => ?_
  obtain ⟨p, kds, y', rfl, rfl, ho, hz, h4⟩ := h3
  obtain ⟨kvs, g1, g2, g3⟩ := own_dic r3 ho
  have iv := i1.mono (e2.trans e3)
  obtain ⟨p1, p2⟩ := putK_is iv y' g2 g3
  refine ⟨p, _, (i2.mono e3).own', .inl ⟨kvs, y', g1, kD_is i3, by rw [← List.length_map (f := (·.1)), g2, List.length_map]; exact hz, rfl⟩, ?_⟩
  exact q.nx _ _ _ _ _ h4 ((e1.trans e2).trans e3) (hs.mono ((e1.trans e2).trans e3)) (r3.change ho ⟨_, upd_same, p1, p2⟩)
/-- an attribute stored -/
def putFd (f : Str) (d : D) : List (Str × D) → List (Str × D)
  | [] => [(f, d)]
  | (g, x) :: r => if g = f then (f, d) :: r else (g, x) :: putFd f d r
theorem putF_is {K : PySem.W.Frag} {L : Lg} {v : V} {d : D} (hv : Is K L v d) (f : Str) : ∀ {l : List (Str × V)} {m : List (Str × D)}, l.map (·.1) = m.map (·.1) → IsL K L (l.map (·.2)) (m.map (·.2)) → (putF f v l).map (·.1) = (putFd f d m).map (·.1) ∧ IsL K L ((putF f v l).map (·.2)) ((putFd f d m).map (·.2))
  | [], [], _, _ => ⟨rfl, .cons hv .nil⟩
  | (a, u) :: l, (b, e) :: m, h, t => by
    simp only [List.map_cons,
        List.cons.injEq] at h
    obtain ⟨h1, h2⟩ := h
    subst h1
    rw [List.map_cons, List.map_cons] at t
    cases t with
    | cons t1 t2 =>
      obtain ⟨i1, i2⟩ := putF_is hv f h2 t2
      unfold putF putFd
      by_cases c : a = f
      · rw [if_pos c, if_pos c]
        exact ⟨by rw [List.map_cons, List.map_cons, h2, ← c], .cons hv t2⟩
      · rw [if_neg c, if_neg c]
        exact ⟨congrArg (a :: ·) i1, .cons t1 i2⟩
  | [], _ :: _, h,
        _ => by simp at h
  | _ :: _, [], h,
        _ => by simp at h
theorem ws_fld {o value : Expr} {f : Str} {pos pos' : Pos} (hsw : swapsWith value (some (.Attribute o f pos')) pos.line X.env = pure false)
    (h : WE X value Γ O fun d O1 => WE X o Γ O1 fun x O2 => ∃ p C fds, x = .own p ∧ O2 p = some (.ins C fds) ∧ Cls X.K C ∧ NoAttr X.K C f ∧ fds.length < 1000 ∧ De.nx Γ (put O2 p (.ins C (putFd f d fds)))) : WS X (.Assign [.Attribute o f pos'] value pos) Γ O De := fun σ L H hs hr E q => by
  refine toS (ps_fld (pu o) (pu value) hsw) ?_
  refine h σ L H hs hr _ fun v d O1 L1 H1 h1 e1 i1 r1 => ?_
  refine h1 σ L1 H1 (hs.mono e1) r1 _ fun x dx O2 L2 H2 h2 e2 i2 r2 => ?_
  obtain ⟨p, C, fds, rfl, ho, hc, hn, hz, h4⟩ := h2
  obtain ⟨dx, fs, g1, g2, g3⟩ := own_ins r2 ho
  obtain ⟨p1, p2⟩ := putF_is (i1.mono e2) f g2 g3
  refine ⟨p, C, dx, fs, i2.own', g1, hc, hn, by rw [← List.length_map (f := (·.1)), g2, List.length_map]; exact hz, ?_⟩
  exact q.nx _ _ _ _ _ h4 (e1.trans e2) (hs.mono (e1.trans e2)) (r2.change ho ⟨dx, _, upd_same, p1, p2⟩)
/-- an owned thing, named in the i-th slot, changes no more -/
theorem wss_freeze {st : List Stmt} {i : Nat} {p : Addr} {od : OD} (ho : O p = some od) (hg : Γ[i]? = some (some (.own p))) (h : WSs X st (Γ.set i (some od.d)) (del O p) De) : WSs X st Γ O De := fun σ L H hs hr E q => by
  obtain ⟨L', le, is, r⟩ := hr.freeze ho
  obtain ⟨v, e1, e2⟩ := hs.at_ i _ hg
  obtain rfl := e2.own'
  have hs' : Sl X.K L' σ (Γ.set i (some od.d)) := by
    have z := (hs.mono le).set is i
    have e : σ.set i (some (.ref p)) = σ := by
      apply List.ext_getElem?
      intro j
      by_cases c : i = j
      · subst c
        have hl : i < σ.length := (List.getElem?_eq_some_iff.mp e1).1
        rw [List.getElem?_set_self hl, e1]
      · rw [List.getElem?_set_ne c]
    rw [e] at z
    exact z
  exact h σ L' H hs' r E (q.le le)
theorem wss_drop {st : List Stmt} (p : Addr) (h : WSs X st Γ (del O p) De) : WSs X st Γ O De := fun σ L H hs hr E q => h σ L H hs (hr.drop p) E q
/-- a value that is handed on: an owned thing may be handed on as one that stays -/
theorem fol_freeze {K : PySem.W.Frag} {L : Lg} {k : KD} {Q : VK} (q : Fol K L k Q) : Fol K L (fun d O' => k d O' ∨ ∃ p od, d = .own p ∧ O' p = some od ∧ k od.d (del O' p)) Q := fun v d O' L' H' h le i r => by
  rcases h with h | ⟨p, od, rfl, ho, h⟩
  · exact q _ _ _ _ _ h le i r
  · obtain ⟨L2, le2, is, r2⟩ := r.freeze ho
    obtain rfl := i.own'
    exact q _ _ _ _ _ h (le.trans le2) is r2
/-- .. behind an expression -/
theorem we_freeze {e : Expr} (h : WE X e Γ O fun d O' => k d O' ∨ ∃ p od, d = .own p ∧ O' p = some od ∧ k od.d (del O' p)) : WE X e Γ O k := fun σ L H hs hr Q q => h σ L H hs hr Q (fol_freeze q)
theorem we_drop {e : Expr} {p : Addr} (h : WE X e Γ (del O p) k) : WE X e Γ O k := fun σ L H hs hr Q q => h σ L H hs (hr.drop p) Q q
theorem we_dropK {e : Expr} {p : Addr} (h : WE X e Γ O fun d O' => k d (del O' p)) : WE X e Γ O k := fun σ L H hs hr Q q => h σ L H hs hr Q fun v d O' L' H' a le i r => q v d _ L' H' a le i (r.drop p)
end

/-! ### what is walked -/
/-- the walk over iter gives the data ds in turn -/
def ItD (X : Cx) (tg iter : Expr) (Γ : Sg) (O : Ow) (κ : List D → Ow → Prop) : Prop := ∃ wi, PI X tg iter wi ∧ ∀ σ L H, Sl X.K L σ Γ → R X.K L O H → ∀ RR : It → Hp → Prop,
  (∀ J (ds : List D) (G : Hp → Prop) (Y : Nat → Hp → V → Hp → Prop) O' L' H', κ ds O' → L.le L' → Walk J ds.length G Y → (∀ L2 O2 H2, L'.le L2 → R X.K L2 O2 H2 → G H2) →
    (∀ i x L2 O2 H2 H3, i < ds.length → L'.le L2 → R X.K L2 O2 H2 → Y i H2 x H3 → ∃ L3 d, L2.le L3 ∧ R X.K L3 O2 H3 ∧ ds[i]? = some d ∧ Is X.K L3 x d) → R X.K L' O' H' → RR J H') → wi σ H RR
section
variable {X : Cx} {Γ : Sg} {O : Ow} {tg : Expr} {κ : List D → Ow → Prop}
theorem it_list {e : Expr} (h : WE X e Γ O fun d O1 => ∃ ds, (d = .lst ds ∨ d = .scr ds) ∧ κ ds O1) : ItD X tg e Γ O κ := by
  refine ⟨_, pi_list (pu e), fun σ L H hs hr RR q => ?_⟩
  refine h σ L H hs hr _ fun v d O1 L1 H1 h1 e1 i1 r1 => ?_
  obtain ⟨ds, hd, h1⟩ := h1
  have hsq : ∃ a vs, v = .ref a ∧ SqL X.K L1.hp a vs ∧ IsL X.K L1 vs ds := by
    rcases hd with rfl | rfl
    · obtain ⟨a, vs, e, s, t⟩ := i1.lst'
      exact ⟨a, vs, e, .inl (.inl s), t⟩
    · exact i1.scr'
  obtain ⟨a, vs, rfl, s, t⟩ := hsq
  refine ⟨a, rfl, ⟨vs, r1.sq s⟩, ?_⟩
  refine q _ ds (fun H => SqL X.K H a vs) (YAt vs) O1 L1 H1 h1 e1 (t.length ▸ walk_list) (fun L2 O2 H2 le r => r.sq (le_sq le s)) (fun i x L2 O2 H2 H3 hi le r y => ?_) r1
  obtain ⟨rfl, y⟩ := y
  obtain ⟨d', g1, g2⟩ := t.getV y
  exact ⟨L2, d', .refl L2, r, g1, g2.mono le⟩
theorem it_tup {e : Expr} (h : WE X e Γ O fun d O1 => ∃ ds, d = .tup ds ∧ κ ds O1) : ItD X tg e Γ O κ := by
  refine ⟨_, pi_tup (pu e), fun σ L H hs hr RR q => ?_⟩
  refine h σ L H hs hr _ fun v d O1 L1 H1 h1 e1 i1 r1 => ?_
  obtain ⟨ds, rfl, h1⟩ := h1
  obtain ⟨a, vs, rfl, s, t⟩ := i1.tup'
  refine ⟨a, rfl, ⟨vs, r1.st s⟩, ?_⟩
  refine q _ ds (fun H => SqT X.K H a vs) (YAt vs) O1 L1 H1 h1 e1 (t.length ▸ walk_tup) (fun L2 O2 H2 le r => r.st (le_st le s)) (fun i x L2 O2 H2 H3 hi le r y => ?_) r1
  obtain ⟨rfl, y⟩ := y
  obtain ⟨d', g1, g2⟩ := t.getV y
  exact ⟨L2, d', .refl L2, r, g1, g2.mono le⟩
theorem it_str {e : Expr} (h : WE X e Γ O fun d O1 => ∃ z : Str, d = .str z ∧ κ (z.cps.toList.map fun c => .str ⟨#[c]⟩) O1) : ItD X tg e Γ O κ := by
  refine ⟨_, pi_str (pu e), fun σ L H hs hr RR q => ?_⟩
  refine h σ L H hs hr _ fun v d O1 L1 H1 h1 e1 i1 r1 => ?_
  obtain ⟨z, rfl, h1⟩ := h1
  refine ⟨z, i1.str', ?_⟩
  have hl : (z.cps.toList.map fun c => D.str ⟨#[c]⟩).length = z.cps.size := by simp
  refine q _ _ (fun _ => True) _ O1 L1 H1 h1 e1 (by rw [hl]; exact walk_str) (fun _ _ _ _ _ => trivial) (fun i x L2 O2 H2 H3 hi le r y => ?_) r1
  obtain ⟨rfl, c, e, rfl⟩ := y
  exact ⟨L2, .str ⟨#[c]⟩, .refl L2, r, by simp [e], .str _⟩
/-- the ints lo, lo + 1, .. -/
def rngD (lo : Int) (n : Nat) : List D := (List.range n).map fun i => .int (lo + (i : Nat))
theorem rngD_len (lo : Int) (n : Nat) : (rngD lo n).length = n := by simp [rngD]
theorem rngD_at (lo : Int) {n i : Nat} (h : i < n) : (rngD lo n)[i]? = some (.int (lo + (i : Nat))) := by simp [rngD, h]
theorem it_range1 {a : Expr} {p pos : Pos} (hg : Gl X "range") (hm : X.mg "range" = none) (hst : starEach [a] X.env = [(false, eval a X.env)]) (h : WA X [a] Γ O fun ds O1 => ∃ n : Int, ds = [.int n] ∧ -(2 ^ 62) ≤ n ∧ n < 2 ^ 62 ∧ κ (rngD 0 n.toNat) O1) : ItD X tg (.Call (.Name "range" p) [a] [] pos) Γ O κ := by
  refine ⟨_, pi_range1 hg hm (pau [a]) hst, fun σ L H hs hr RR q => ?_⟩
  refine h σ L H hs hr _ fun vs ds O1 L1 H1 h1 e1 i1 r1 => ?_
  obtain ⟨n, rfl, n1, n2, h1⟩ := h1
  obtain ⟨v, rfl, iv⟩ := i1.one'
  refine ⟨n, by rw [iv.int'], n1, n2, ?_⟩
  refine q _ _ (fun _ => True) _ O1 L1 H1 h1 e1 (by rw [rngD_len]; exact walk_range) (fun _ _ _ _ _ => trivial) (fun i x L2 O2 H2 H3 hi le r y => ?_) r1
  obtain ⟨rfl, rfl⟩ := y
  rw [rngD_len] at hi
  exact ⟨L2, _, .refl L2, r, rngD_at 0 hi, .int _⟩
theorem it_range2 {a b : Expr} {p pos : Pos} (hg : Gl X "range") (hm : X.mg "range" = none) (hst : starEach [a, b] X.env = [(false, eval a X.env), (false, eval b X.env)]) (hst2 : starEach [b] X.env = [(false, eval b X.env)])
    (h : WA X [a, b] Γ O fun ds O1 => ∃ m n : Int, ds = [.int m, .int n] ∧ (-(2 ^ 62) ≤ m ∧ m < 2 ^ 62 ∧ -(2 ^ 62) ≤ n ∧ n < 2 ^ 62) ∧ κ (rngD m (n - m).toNat) O1) : ItD X tg (.Call (.Name "range" p) [a, b] [] pos) Γ O κ := by
  refine ⟨_, pi_range2 hg hm (pau [a, b]) hst hst2, fun σ L H hs hr RR q => ?_⟩
  refine h σ L H hs hr _ fun vs ds O1 L1 H1 h1 e1 i1 r1 => ?_
  obtain ⟨m, n, rfl, n1, h1⟩ := h1
  obtain ⟨v, u, rfl, i1, i2⟩ := i1.two'
  refine ⟨m, n, by rw [i1.int', i2.int'], n1, ?_⟩
  refine q _ _ (fun _ => True) _ O1 L1 H1 h1 e1 (by rw [rngD_len]; exact walk_range) (fun _ _ _ _ _ => trivial) (fun i x L2 O2 H2 H3 hi le r y => ?_) r1
  obtain ⟨rfl, rfl⟩ := y
  rw [rngD_len] at hi
  exact ⟨L2, _, .refl L2, r, rngD_at m hi, .int _⟩
/-- pairs -/
theorem pair_new {L : Lg} {H H3 : Hp} {i : Nat} {x : V} {xs ys : Nat → Option V} {d e : D} (r : R X.K L O H) (y : YPair xs ys i H x H3) (hx : ∀ v, xs i = some v → Is X.K L v d) (hy : ∀ v, ys i = some v → Is X.K L v e) : ∃ L3, L.le L3 ∧ R X.K L3 O H3 ∧ Is X.K L3 x (.tup [d, e]) := by
  obtain ⟨T, v, u, rfl, hT, rfl, e1, e2⟩ := y
  obtain ⟨L3, le, is, r3⟩ := r.newT hT (.cons (hx v e1) (.cons (hy u e2) .nil))
  exact ⟨L3, le, r3, is⟩
def enumD (ds : List D) : List D := ds.zipIdx.map fun p => .tup [.int (p.2 : Nat), p.1]
theorem enumD_len (ds : List D) : (enumD ds).length = ds.length := by simp [enumD]
theorem enumD_at {ds : List D} {i : Nat} {d : D} (h : ds[i]? = some d) : (enumD ds)[i]? = some (.tup [.int (i : Nat), d]) := by
  simp [enumD, h]
theorem it_enum {e : Expr} {p pos tpos : Pos} {elts : List Expr} {kk : Nat} (hg : Gl X "enumerate") (hm : X.mg "enumerate" = none) (hst : starEach [e] X.env = [(false, eval e X.env)])
    (h : WA X [e] Γ O fun xs O1 => ∃ ds, (xs = [.lst ds] ∨ xs = [.scr ds]) ∧ κ (enumD ds) O1) : ItD X (.Tuple elts kk tpos) (.Call (.Name "enumerate" p) [e] [] pos) Γ O κ := by
  refine ⟨_, pi_enum hg hm (pau [e]) hst, fun σ L H hs hr RR q => ?_⟩
  refine h σ L H hs hr _ fun vs xs O1 L1 H1 h1 e1 i1 r1 => ?_
  obtain ⟨ds, hd, h1⟩ := h1
  have hsq : ∃ a us, vs = [.ref a] ∧ SqL X.K L1.hp a us ∧ IsL X.K L1 us ds := by
    rcases hd with rfl | rfl
    · obtain ⟨v, rfl, iv⟩ := i1.one'
      obtain ⟨a, us, rfl, s, t⟩ := iv.lst'
      exact ⟨a, us, rfl, .inl (.inl s), t⟩
    · obtain ⟨v, rfl, iv⟩ := i1.one'
      obtain ⟨a, us, rfl, s, t⟩ := iv.scr'
      exact ⟨a, us, rfl, s, t⟩
  obtain ⟨a, us, rfl, s, t⟩ := hsq
  refine ⟨a, us, rfl, r1.sq s, ?_⟩
  refine q _ _ (fun H => SqL X.K H a us) _ O1 L1 H1 h1 e1 (by rw [enumD_len, ← t.length]; exact walk_enum) (fun L2 O2 H2 le r => r.sq (le_sq le s)) (fun i x L2 O2 H2 H3 hi le r y => ?_) r1
  rw [enumD_len] at hi
  obtain ⟨L3, le3, r3, is⟩ := pair_new (d := .int (i : Nat)) (e := ds[i]) r y (fun v e => by cases e; exact .int _) (fun v e => by
    obtain ⟨d', g1, g2⟩ := t.getV e
    have g3 : ds[i] = d' := by
      rw [List.getElem?_eq_getElem hi] at g1; exact Option.some.inj g1
    rw [g3]; exact g2.mono le)
  exact ⟨L3, _, le3, r3, enumD_at (by rw [List.getElem?_eq_getElem hi]), is⟩
def zipD (xs ys : List D) : List D := (xs.zip ys).map fun p => .tup [p.1, p.2]
theorem zipD_len (xs ys : List D) : (zipD xs ys).length = min xs.length ys.length := by simp [zipD]
theorem zipD_at {xs ys : List D} {i : Nat} {d e : D} (h : xs[i]? = some d) (h' : ys[i]? = some e) : (zipD xs ys)[i]? = some (.tup [d, e]) := by
  unfold zipD
  rw [List.getElem?_map]
  have z : (xs.zip ys)[i]? = some (d, e) := by
    rw [List.getElem?_zip_eq_some]; exact ⟨h, h'⟩
  rw [z]; rfl
theorem it_zipL {e e2 : Expr} {p pos tpos : Pos} {elts : List Expr} {kk : Nat} (hg : Gl X "zip") (hm : X.mg "zip" = none) (hst : starEach [e, e2] X.env = (false, eval e X.env) :: starEach [e2] X.env) (hpl : (backTo pos (starEach [e2] X.env)).any (·.1) = false)
    (h : WA X [e, e2] Γ O fun xs O1 => ∃ ds es, xs = [.lst ds, .lst es] ∧ κ (zipD ds es) O1) : ItD X (.Tuple elts kk tpos) (.Call (.Name "zip" p) [e, e2] [] pos) Γ O κ := by
  refine ⟨_, pi_zip hg hm (pau [e, e2]) hst hpl, fun σ L H hs hr RR q => ?_⟩
  refine h σ L H hs hr _ fun vs xs O1 L1 H1 h1 e1 i1 r1 => ?_
  obtain ⟨ds, es, rfl, h1⟩ := h1
  obtain ⟨v, u, rfl, i1, i2⟩ := i1.two'
  obtain ⟨a, us, rfl, s, t⟩ := i1.lst'
  obtain ⟨b, ws, rfl, s', t'⟩ := i2.lst'
  refine ⟨a, b, us, ws, rfl, .inl (.inl (r1.hp _ _ s)), .inl (.inl (r1.hp _ _ s')), ?_⟩
  refine q _ _ (fun H => SqL X.K H a us ∧ SqL X.K H b ws) _ O1 L1 H1 h1 e1 (walk_zip (by rw [zipD_len, t.length, t'.length])) (fun L2 O2 H2 le r => ⟨.inl (.inl (r.hp _ _ (le.hp _ _ s))), .inl (.inl (r.hp _ _ (le.hp _ _ s')))⟩) (fun i x L2 O2 H2 H3 hi le r y => ?_) r1
  rw [zipD_len] at hi
  have h1 : i < ds.length := by omega
  have h2 : i < es.length := by omega
  obtain ⟨L3, le3, r3, is⟩ := pair_new (d := ds[i]) (e := es[i]) r y (fun v e => by
    obtain ⟨d', g1, g2⟩ := t.getV e
    have g3 : ds[i] = d' := by rw [List.getElem?_eq_getElem h1] at g1; exact Option.some.inj g1
    rw [g3]; exact g2.mono le) (fun v e => by
    obtain ⟨d', g1, g2⟩ := t'.getV e
    have g3 : es[i] = d' := by rw [List.getElem?_eq_getElem h2] at g1; exact Option.some.inj g1
    rw [g3]; exact g2.mono le)
  exact ⟨L3, _, le3, r3, zipD_at (List.getElem?_eq_getElem h1) (List.getElem?_eq_getElem h2), is⟩
theorem walk_zipT' {K : PySem.W.Frag} {a b : Addr} {xs ys : List V} {n : Nat} (hn : n = min xs.length ys.length) : Walk (ItzT K a b) n (fun H => SqT K H a xs ∧ SqT K H b ys) (YPair (fun i => xs[i]?) (fun i => ys[i]?)) := by
  subst hn
  refine ⟨fun i _ hi q => ?_, fun _ q => ⟨xs, ys,
      q.1, q.2, by omega⟩, fun i H v H' _ q y => ?_⟩
  · have c1 : i < xs.length := by omega
    have c2 : i < ys.length := by omega
    exact ⟨xs, ys, xs[i], ys[i], q.1, q.2, List.getElem?_eq_getElem c1, List.getElem?_eq_getElem c2⟩
  · obtain ⟨T, x, z, g1, g2, g3, g4, g5⟩ := y
    exact ⟨T, x, z, g1, g2, g3, g4 xs q.1, g5 ys q.2⟩
theorem it_zipT {e e2 : Expr} {p pos tpos : Pos} {elts : List Expr} {kk : Nat} (hg : Gl X "zip") (hm : X.mg "zip" = none) (hst : starEach [e, e2] X.env = (false, eval e X.env) :: starEach [e2] X.env) (hpl : (backTo pos (starEach [e2] X.env)).any (·.1) = false)
    (h : WA X [e, e2] Γ O fun xs O1 => ∃ ds es, xs = [.tup ds, .tup es] ∧ κ (zipD ds es) O1) : ItD X (.Tuple elts kk tpos) (.Call (.Name "zip" p) [e, e2] [] pos) Γ O κ := by
  refine ⟨_, pi_zipA hg hm (pau [e, e2]) hst hpl, fun σ L H hs hr RR q => ?_⟩
  refine h σ L H hs hr _ fun vs xs O1 L1 H1 h1 e1 i1 r1 => ?_
  obtain ⟨ds, es, rfl, h1⟩ := h1
  obtain ⟨v, u, rfl, i1, i2⟩ := i1.two'
  obtain ⟨a, us, rfl, s, t⟩ := i1.tup'
  obtain ⟨b, ws, rfl, s', t'⟩ := i2.tup'
  refine ⟨a, b, us, ws, rfl, .inr ⟨r1.st s, r1.st s', ?_⟩⟩
  refine q _ _ (fun H => SqT X.K H a us ∧ SqT X.K H b ws) _ O1 L1 H1 h1 e1 (walk_zipT' (by rw [zipD_len, t.length, t'.length])) (fun L2 O2 H2 le r => ⟨r.st (le_st le s), r.st (le_st le s')⟩) (fun i x L2 O2 H2 H3 hi le r y => ?_) r1
  rw [zipD_len] at hi
  have h1 : i < ds.length := by omega
  have h2 : i < es.length := by omega
  obtain ⟨L3, le3, r3, is⟩ := pair_new (d := ds[i]) (e := es[i]) r y (fun v e => by
    obtain ⟨d', g1, g2⟩ := t.getV e
    have g3 : ds[i] = d' := by rw [List.getElem?_eq_getElem h1] at g1; exact Option.some.inj g1
    rw [g3]; exact g2.mono le) (fun v e => by
    obtain ⟨d', g1, g2⟩ := t'.getV e
    have g3 : es[i] = d' := by rw [List.getElem?_eq_getElem h2] at g1; exact Option.some.inj g1
    rw [g3]; exact g2.mono le)
  exact ⟨L3, _, le3, r3, zipD_at (List.getElem?_eq_getElem h1) (List.getElem?_eq_getElem h2), is⟩

/-! ### for -/
theorem ws_for {iter : Expr} {body : List Stmt} {pos : Pos} {De : DE} (hp : PassesOwn (model X.prog X.w) X.A X.env X.xe) (hc : X.calm = true) (hfs : ∀ x, foldedSetIterable iter X.env x = pure x)
    (h : ItD X tg iter Γ O fun ds O1 => ∃ I : Nat → Sg → Ow → Prop, I 0 Γ O1 ∧
      (∀ i d Γ' O', ds[i]? = some d → I i Γ' O' → WG X tg d Γ' O' fun Γ2 O2 => WSs X body Γ2 O2 { nx := I (i + 1), rt := De.rt, bk := De.nx, ct := I (i + 1) }) ∧
      (∀ Γ' O', I ds.length Γ' O' → De.nx Γ' O')) : WS X (.For tg iter body [] pos) Γ O De := fun σ L H hs hr E q => by
  obtain ⟨wi, hpi, hit⟩ := h
  refine toS (ps_for hp hc hpi (pgu tg) (pssu body) hfs) ?_
  refine hit σ L H hs hr _ fun J ds G Y O1 L1 H1 h1 e1 w hG hY r1 => ?_
  obtain ⟨I, i0, step, fin⟩ := h1
  refine for_it w (fun i σ' H' => ∃ Γ' O' L', I i Γ' O' ∧ L1.le L' ∧ Sl X.K L' σ' Γ' ∧ R X.K L' O' H') ⟨Γ, O1, L1, i0, .refl L1, hs.mono e1, r1⟩ (fun i σ' H' hi ⟨Γ', O', L', _, le, _, r⟩ => hG L' O' H' le r) ?_ ?_
  · rintro i x σ' H2 H3 hi ⟨Γ', O', L', hI, le, hs', r'⟩ hy
    obtain ⟨L3, d, le3, r3, hd, is⟩ := hY i x L' O' H2 H3 hi le r' hy
    refine step i d Γ' O' hd hI x σ' L3 H3 is (hs'.mono le3) r3 _ fun Γ2 O2 σ2 L4 H4 h4 e4 s4 r4 => ?_
    refine h4 σ2 L4 H4 s4 r4 _ ⟨?_, ?_, ?_, ?_⟩
    · exact fun Γ5 O5 σ5 L5 H5 a5 e5 s5 r5 => ⟨Γ5, O5, L5, a5, ((le.trans le3).trans e4).trans e5, s5, r5⟩
    · exact q.rt.le ((((e1.trans le).trans le3).trans e4))
    · exact fun Γ5 O5 σ5 L5 H5 a5 e5 s5 r5 => q.nx _ _ _ _ _ a5 ((((e1.trans le).trans le3).trans e4).trans e5) s5 r5
    · exact fun Γ5 O5 σ5 L5 H5 a5 e5 s5 r5 => ⟨Γ5, O5, L5, a5, ((le.trans le3).trans e4).trans e5, s5, r5⟩
  · rintro σ' H' ⟨Γ', O', L', hI, le, hs', r'⟩
    exact q.nx _ _ _ _ _ (fin Γ' O' hI) (e1.trans le) hs' r'

/-! ### comprehensions -/
/-- the context of a comprehension's block -/
abbrev Bk (X : Cx) (scope : Scope) (s : Shared) (H : Hp) (C : Addr) (cl : List (Str × Addr)) (fp : List Addr) : Cx := X.blk s H scope (compEnvC scope cl C X.env) fp
def uBE (X : Cx) (scope : Scope) (e : Expr) : TE := fun σ H Q => ∀ s H0 C cl fp, uE (Bk X scope s H0 C cl fp) e σ H Q
def uBT (X : Cx) (scope : Scope) (e : Expr) : TT := fun σ H Q => ∀ s H0 C cl fp, uT (Bk X scope s H0 C cl fp) e σ H Q
def uBG (X : Cx) (scope : Scope) (tg : Expr) : TG := fun v σ H q => ∀ s H0 C cl fp, uG (Bk X scope s H0 C cl fp) tg v σ H q
/-- what a block's expression | test | target leads to, wherever the block stands -/
def BE (X : Cx) (scope : Scope) (e : Expr) (Γ : Sg) (O : Ow) (k : KD) : Prop := ∀ s H C cl fp, WE (Bk X scope s H C cl fp) e Γ O k
def BG (X : Cx) (scope : Scope) (tg : Expr) (d : D) (Γ : Sg) (O : Ow) (k : Sg → Ow → Prop) : Prop := ∀ s H C cl fp, WG (Bk X scope s H C cl fp) tg d Γ O k
def BTs (X : Cx) (scope : Scope) (ifs : List Expr) (Γ : Sg) (O : Ow) (k : Bool → Ow → Prop) : Prop := match ifs with
  | [] => k true O
  | [c] => ∀ s H C cl fp, WT (Bk X scope s H C cl fp) c Γ O k
  | _ => False
def wipeD (Γ : Sg) : List Nat → Sg
  | [] => Γ
  | v :: vs => (wipeD Γ vs).set v none
theorem sl_wipe {K : PySem.W.Frag} {L : Lg} {σ : L2.St} (h : Sl K L σ Γ) : ∀ vs : List Nat, Sl K L (wipe σ vs) (wipeD Γ vs)
  | [] => h
  | v :: vs => by
    have ih := sl_wipe h vs
    unfold wipe wipeD
    refine ⟨by rw [List.length_set, List.length_set]; exact ih.len, fun j e z => ?_⟩
    by_cases c : v = j
    · subst c
      rw [List.getElem?_set_self'] at z
      cases e2 : (wipeD Γ vs)[v]? with
      | none => rw [e2] at z; cases z
      | some w => rw [e2] at z; simp at z
    · rw [List.getElem?_set_ne c] at z
      obtain ⟨w, a, b⟩ := ih.at_ j e z
      exact ⟨w, by rw [List.getElem?_set_ne c]; exact a, b⟩
/-- what was owned is owned as it was -/
def Agr (O O' : Ow) : Prop := ∀ a od, O a = some od → O' a = some od
theorem bts_univ (ifs : List Expr) (hl : ifs = [] ∨ ∃ c, ifs = [c]) (scope : Scope) : ∃ tt : TT, (∀ (s : Shared) (H : Hp) (C : Addr) (cl : List (Str × Addr)) (fp : List Addr), PTs (Bk X scope s H C cl fp) ifs tt) ∧
    ∀ Γ O k, BTs X scope ifs Γ O k → ∀ σ L H, Sl X.K L σ Γ → R X.K L O H → ∀ Q, FolT X.K L k Q → tt σ H Q := by
  rcases hl with rfl | ⟨c, rfl⟩
  · exact ⟨tYes, fun _ _ _ _ _ => pts_nil, fun Γ O k h σ L H hs hr Q q => q _ _ _ _ h (.refl L) hr⟩
  · refine ⟨uBT X scope c, fun s H C cl fp => pts_one ⟨fun pins s1 σ H1 Q I h => h s H C cl fp pins s1 I⟩, fun Γ O k h σ L H hs hr Q q s H0 C cl fp => ?_⟩
    exact h s H0 C cl fp σ L H hs hr Q q
/-- targets made of names -/
inductive Tg where
  | nm (i : Nat) | tup (ts : List Tg)
mutual
def tgG (K : PySem.W.Frag) : Tg → TG
  | .nm i => gName i
  | .tup ts => gTup K ts.length (tgGs K ts)
def tgGs (K : PySem.W.Frag) : List Tg → TGs
  | [] => gNil
  | t :: ts => gCons (tgG K t) (tgGs K ts)
end
mutual
def tgD : Tg → D → Sg → Option Sg
  | .nm i, d, Γ => some (Γ.set i (some d))
  | .tup ts, .tup ds, Γ => if ds.length = ts.length then tgDs ts ds Γ else none
  | .tup _, _, _ => none
def tgDs : List Tg → List D → Sg → Option Sg
  | [], [], Γ => some Γ
  | t :: ts, d :: ds, Γ => match tgD t d Γ with
    | some Γ1 => tgDs ts ds Γ1
    | none => none
  | _, _, _ => none
end
mutual
def tgIx : Tg → List Nat
  | .nm i => [i]
  | .tup ts => tgIxs ts
def tgIxs : List Tg → List Nat
  | [] => []
  | t :: ts => tgIx t ++ tgIxs ts
end
theorem wipe_set {σ : L2.St} {i : Nat} {x : Option V} : ∀ {vs : List Nat}, i ∈ vs → wipe (σ.set i x) vs = wipe σ vs := by
  intro vs
  have key : ∀ (vs : List Nat), (i ∈ vs → wipe (σ.set i x) vs = wipe σ vs) ∧ (i ∉ vs → wipe (σ.set i x) vs = (wipe σ vs).set i x) := by
    intro vs
    induction vs with
    | nil => exact ⟨fun h => absurd h (by simp), fun _ => rfl⟩
    | cons v vs ih =>
      constructor
      · intro h
        unfold wipe
        by_cases c : i ∈ vs
        · rw [ih.1 c]
        · have e : i = v := by
            rcases List.mem_cons.mp h with h | h
            · exact h
            · exact absurd h c
          subst e
          rw [ih.2 c, List.set_set]
      · intro h
        have h1 : i ≠ v := fun e => h (by rw [e]; exact List.mem_cons_self)
        have h2 : i ∉ vs := fun e => h (List.mem_cons_of_mem _ e)
        unfold wipe
        rw [ih.2 h2, List.set_comm _ _ h1]
  exact (key vs).1
mutual
theorem tg_run {K : PySem.W.Frag} {L : Lg} {O : Ow} {H : Hp} (r : R K L O H) (vs : List Nat) : ∀ (t : Tg) {v : V} {d : D} {σ : L2.St} {Γ Γ2 : Sg}, (∀ i ∈ tgIx t, i ∈ vs) → Is K L v d → Sl K L σ Γ → tgD t d Γ = some Γ2 →
    ∀ q : L2.St → Hp → Prop, (∀ σ2, Sl K L σ2 Γ2 → wipe σ2 vs = wipe σ vs → q σ2 H) → tgG K t v σ H q
  | .nm i, v, d, σ, Γ, Γ2, hi, iv, hs, e, q, hq => by
    rw [tgD] at e
    cases e
    rw [tgG]
    exact hq _ (hs.set iv i) (wipe_set (hi i (by simp [tgIx])))
  | .tup ts, v, .tup ds, σ, Γ, Γ2, hi, iv, hs, e, q, hq => by
    rw [tgD] at e
    split at e
    · rename_i hl
      obtain ⟨a, us, rfl, s, t⟩ := iv.tup'
      rw [tgG]
      exact ⟨a, us, rfl, r.st s, by rw [t.length, hl], tgs_run r vs ts (fun i h => hi i (by rw [tgIx]; exact h)) t hs e q hq⟩
    · cases e
  | .tup ts, v, .non, σ, Γ, Γ2, hi, iv, hs, e, q, hq => by simp [tgD] at e
  | .tup ts, v, .bl _, σ, Γ, Γ2, hi, iv, hs, e, q, hq => by simp [tgD] at e
  | .tup ts, v, .int _, σ, Γ, Γ2, hi, iv, hs, e, q, hq => by simp [tgD] at e
  | .tup ts, v, .str _, σ, Γ, Γ2, hi, iv, hs, e, q, hq => by simp [tgD] at e
  | .tup ts, v, .byt _, σ, Γ, Γ2, hi, iv, hs, e, q, hq => by simp [tgD] at e
  | .tup ts, v, .ty _, σ, Γ, Γ2, hi, iv, hs, e, q, hq => by simp [tgD] at e
  | .tup ts, v, .own _, σ, Γ, Γ2, hi, iv, hs, e, q, hq => by simp [tgD] at e
  | .tup ts, v, .box, σ, Γ, Γ2, hi, iv, hs, e, q, hq => by simp [tgD] at e
  | .tup ts, v, .lst _, σ, Γ, Γ2, hi, iv, hs, e, q, hq => by simp [tgD] at e
  | .tup ts, v, .dic _, σ, Γ, Γ2, hi, iv, hs, e, q, hq => by simp [tgD] at e
  | .tup ts, v, .ins _ _, σ, Γ, Γ2, hi, iv, hs, e, q, hq => by simp [tgD] at e
  | .tup ts, v, .scr _, σ, Γ, Γ2, hi, iv, hs, e, q, hq => by simp [tgD] at e
  | .tup ts, v, .exc _ _ _, σ, Γ, Γ2, hi, iv, hs, e, q, hq => by simp [tgD] at e
  | .tup ts, v, .any, σ, Γ, Γ2, hi, iv, hs, e, q, hq => by simp [tgD] at e
theorem tgs_run {K : PySem.W.Frag} {L : Lg} {O : Ow} {H : Hp} (r : R K L O H) (vs : List Nat) : ∀ (ts : List Tg) {us : List V} {ds : List D} {σ : L2.St} {Γ Γ2 : Sg}, (∀ i ∈ tgIxs ts, i ∈ vs) → IsL K L us ds → Sl K L σ Γ → tgDs ts ds Γ = some Γ2 →
    ∀ q : L2.St → Hp → Prop, (∀ σ2, Sl K L σ2 Γ2 → wipe σ2 vs = wipe σ vs → q σ2 H) → tgGs K ts us σ H q
  | [], us, [], σ, Γ, Γ2, hi, iv, hs, e, q, hq => by
    rw [tgDs] at e
    cases e
    cases iv
    rw [tgGs]
    exact ⟨rfl, hq σ hs rfl⟩
  | t :: ts, us, d :: ds, σ, Γ, Γ2, hi, iv, hs, e, q, hq => by
    rw [tgDs] at e
    cases iv with
    | cons i1 i2 =>
      cases h1 : tgD t d Γ with
      | none => rw [h1] at e; cases e
      | some Γ1 =>
        rw [h1] at e
        rw [tgGs]
        refine ⟨_, _, rfl, ?_⟩
        refine tg_run r vs t (fun i h => hi i (by rw [tgIxs]; exact List.mem_append_left _ h)) i1 hs h1 _ fun σ1 s1 w1 => ?_
        exact tgs_run r vs ts (fun i h => hi i (by rw [tgIxs]; exact List.mem_append_right _ h)) i2 s1 e q fun σ2 s2 w2 => hq σ2 s2 (w2.trans w1)
  | [], _, _ :: _, _, _, _, _, _, _, e, _, _ => by simp [tgDs] at e
  | _ :: _, _, [], _, _, _, _, _, _, e, _, _ => by simp [tgDs] at e
end
/-- what a comprehension asks -/
def LcD (X : Cx) (elt : Expr) (ifs : List Expr) (scope : Scope) (vs : List Nat) (t : Tg) (Γ : Sg) (ds : List D) (O1 : Ow) (fin : List D → Prop) : Prop := ∃ P : Nat → List D → Prop, P 0 [] ∧
  (∀ i d acc, ds[i]? = some d → P i acc → ∀ O2, Agr O1 O2 → ∃ Γ2, tgD t d (wipeD Γ vs) = some Γ2 ∧ BTs X scope ifs Γ2 O2 fun b O3 => O3 = O2 ∧
    (if b = true then BE X scope elt Γ2 O2 fun y O4 => O4 = O2 ∧ acc.length < sizeLine ∧ P (i + 1) (acc ++ [y]) else P (i + 1) acc)) ∧ ∀ acc, P ds.length acc → fin acc
theorem lc_run {elt : Expr} {ifs : List Expr} {scope : Scope} {vs : List Nat} {t : Tg} {wi : TI} {tt : TT} (hi : ∀ i ∈ tgIx t, i ∈ vs)
    (hit : ∀ σ L H, Sl X.K L σ Γ → R X.K L O H → ∀ RR : It → Hp → Prop, (∀ J (ds : List D) (G : Hp → Prop) (Y : Nat → Hp → V → Hp → Prop) O' L' H', κ ds O' → L.le L' → Walk J ds.length G Y → (∀ L2 O2 H2, L'.le L2 → R X.K L2 O2 H2 → G H2) →
      (∀ i x L2 O2 H2 H3, i < ds.length → L'.le L2 → R X.K L2 O2 H2 → Y i H2 x H3 → ∃ L3 d, L2.le L3 ∧ R X.K L3 O2 H3 ∧ ds[i]? = some d ∧ Is X.K L3 x d) → R X.K L' O' H' → RR J H') → wi σ H RR)
    (htt : ∀ Γ O k, BTs X scope ifs Γ O k → ∀ σ L H, Sl X.K L σ Γ → R X.K L O H → ∀ Q, FolT X.K L k Q → tt σ H Q)
    {kp : List D → Addr → Ow → Prop} (hk : ∀ ds O1, κ ds O1 → LcD X elt ifs scope vs t Γ ds O1 fun acc => ∀ p, O1 p = none → kp acc p (put O1 p (.lst acc)))
    {σ : L2.St} {L : Lg} {H : Hp} (hs : Sl X.K L σ Γ) (hr : R X.K L O H) {Q : VK} (q : ∀ acc p O' L' H', kp acc p O' → O' p = some (.lst acc) → L.le L' → R X.K L' O' H' → Q (.ref p) H') : tLc wi (tgG X.K t) tt (uBE X scope elt) vs σ H Q := by
  refine hit σ L H hs hr _ fun J ds G Y O1 L1 H1 h1 e1 w hG hY r1 => fun Dl hD => ?_
  obtain ⟨P, p0, step, fin⟩ := hk ds O1 h1
  obtain ⟨f1, f2, f3⟩ := r1.free hD
  have hs1 := sl_wipe (hs.mono e1) vs
  refine lc_it w (fun i H' => ∃ acc L', P i acc ∧ L1.le L' ∧ R X.K L' (put O1 Dl (.lst acc)) H') ⟨[], L1, p0, .refl L1, r1.newLO hD .nil⟩ (fun i H' hi ⟨acc, L', _, le, r⟩ => hG L' _ H' le r) ?_ ?_
  · rintro i x H2 H3 hlt ⟨acc, L', hP, le, r'⟩ hy
    obtain ⟨L3, d, le3, r3, hd, is⟩ := hY i x L' _ H2 H3 hlt le r' hy
    have agr : Agr O1 (put O1 Dl (.lst acc)) := fun a od h => by
      rw [put_ne (fun e => by rw [e, f2] at h; cases h)]; exact h
    obtain ⟨Γ2, hT, hb⟩ := step i d acc hd hP _ agr
    refine tg_run r3 vs t hi is (hs1.mono (le.trans le3)) hT _ fun σ2 s2 hw => ⟨hw.trans ?_, ?_⟩
    · clear hw s2
      have : ∀ us : List Nat, (∀ u ∈ us, u ∈ vs) → wipe (wipe σ us) vs = wipe σ vs := fun us => by
        induction us with
        | nil => intro _; rfl
        | cons u us ih =>
          intro hu
          show wipe ((wipe σ us).set u none) vs = wipe σ vs
          rw [wipe_set (hu u List.mem_cons_self)]
          exact ih fun z hz => hu z (List.mem_cons_of_mem _ hz)
      exact this vs fun _ h => h
    · refine htt _ _ _ hb σ2 L3 H3 s2 r3 _ fun b O3 L4 H4 h4 e4 r4 => ?_
      obtain ⟨rfl, h4⟩ := h4
      cases b with
      | false =>
        refine iteF ?_
        exact ⟨acc, L4, h4, (le.trans le3).trans e4, r4⟩
      | true =>
        refine iteT ?_
        have h4' : BE X scope elt Γ2 (put O1 Dl (.lst acc)) fun y O4 => O4 = put O1 Dl (.lst acc) ∧ acc.length < sizeLine ∧ P (i + 1) (acc ++ [y]) := h4
        intro s H0 C cl fp
        refine h4' s H0 C cl fp σ2 L4 H4 (s2.mono e4) r4 _ fun v y O5 L5 H5 h5 e5 i5 r5 => ?_
        obtain ⟨rfl, hz, hP'⟩ := h5
        obtain ⟨xs, g1, g2⟩ := own_lst r5 put_same
        refine ⟨xs, g1, by rw [g2.length]; exact hz, acc ++ [y], L5, hP', ((le.trans le3).trans e4).trans e5, ?_⟩
        have z := r5.change (od' := .lst (acc ++ [y])) put_same ⟨_, upd_same, g2.append (.cons i5 .nil)⟩
        rw [put_put] at z
        exact z
  · rintro H' ⟨acc, L', hP, le, r'⟩
    exact q acc Dl _ L' H' (fin acc hP Dl f2) put_same (e1.trans le) r'
theorem we_lcO {elt iter : Expr} {ifs : List Expr} {scope : Scope} {pos : Pos} {k : KD} (own : List (Str × Nat)) (t : Tg) (hc : X.calm = true) (hN : X.N.Nodup) (ok : blkC X.N X.env.scope scope own = true) (hl : ifs = [] ∨ ∃ c, ifs = [c]) (hfs : ∀ x, foldedSetIterable iter X.env x = pure x)
    (hg : ∀ (s : Shared) (H : Hp) (C : Addr) (cl : List (Str × Addr)) (fp : List Addr), PG (Bk X scope s H C cl fp) tg (tgG X.K t)) (hi : ∀ i ∈ tgIx t, i ∈ own.map (·.2))
    (h : ItD X tg iter Γ O fun ds O1 => LcD X elt ifs scope (own.map (·.2)) t Γ ds O1 fun acc => ∀ p, O1 p = none → k (.own p) (put O1 p (.lst acc))) : WE X (.ListComp elt [⟨tg, iter, ifs, 0⟩] scope pos) Γ O k := fun σ L H hs hr Q q => by
  obtain ⟨wi, hpi, hit⟩ := h
  obtain ⟨tt, ht, htt⟩ := bts_univ (X := X) ifs hl scope
  refine toE (pe_lc hc hN hpi (blkOk_by ok) hg ht (te := uBE X scope elt) (fun s H C cl fp => ⟨fun pins s1 σ H1 Q I h => h s H C cl fp pins s1 I⟩) hfs) ?_
  exact lc_run hi hit htt (fun ds O1 h => h) hs hr fun acc p O' L' H' a ho le r => q _ _ _ _ _ a le (.own p) r
theorem we_lc {elt iter : Expr} {ifs : List Expr} {scope : Scope} {pos : Pos} {k : KD} (own : List (Str × Nat)) (t : Tg) (hc : X.calm = true) (hN : X.N.Nodup) (ok : blkC X.N X.env.scope scope own = true) (hl : ifs = [] ∨ ∃ c, ifs = [c]) (hfs : ∀ x, foldedSetIterable iter X.env x = pure x)
    (hg : ∀ (s : Shared) (H : Hp) (C : Addr) (cl : List (Str × Addr)) (fp : List Addr), PG (Bk X scope s H C cl fp) tg (tgG X.K t)) (hi : ∀ i ∈ tgIx t, i ∈ own.map (·.2))
    (h : ItD X tg iter Γ O fun ds O1 => LcD X elt ifs scope (own.map (·.2)) t Γ ds O1 fun acc => k (.lst acc) O1) : WE X (.ListComp elt [⟨tg, iter, ifs, 0⟩] scope pos) Γ O k := by
  refine we_freeze (we_lcO own t hc hN ok hl hfs hg hi ?_)
  obtain ⟨wi, hpi, hit⟩ := h
  refine ⟨wi, hpi, fun σ L H hs hr RR q => hit σ L H hs hr RR fun J ds G Y O' L' H' a => q J ds G Y O' L' H' ?_⟩
  obtain ⟨P, p0, step, fin⟩ := a
  exact ⟨P, p0, step, fun acc hp p hn => .inr ⟨p, _, rfl, put_same, by rw [del_put hn]; exact fin acc hp⟩⟩
theorem ws_setLcO {elt iter : Expr} {ifs : List Expr} {scope : Scope} {pos spos py : Pos} {y : Str} {j : Nat} {De : DE} (own : List (Str × Nat)) (t : Tg) (hc : X.calm = true) (hN : X.N.Nodup) (hy : X.N[j]? = some y) (hyl : X.env.scope.names.lookup y = some .local)
    (hsw : swapsWith (.ListComp elt [⟨tg, iter, ifs, 0⟩] scope pos) (some (.Name y py)) spos.line X.env = pure true) (ok : blkC X.N X.env.scope scope own = true) (hl : ifs = [] ∨ ∃ c, ifs = [c]) (hfs : ∀ x, foldedSetIterable iter X.env x = pure x)
    (hg : ∀ (s : Shared) (H : Hp) (C : Addr) (cl : List (Str × Addr)) (fp : List Addr), PG (Bk X scope s H C cl fp) tg (tgG X.K t)) (hi : ∀ i ∈ tgIx t, i ∈ own.map (·.2))
    (h : ItD X tg iter Γ O fun ds O1 => LcD X elt ifs scope (own.map (·.2)) t Γ ds O1 fun acc => ∀ p, O1 p = none → De.nx (Γ.set j (some (.own p))) (put O1 p (.lst acc))) : WS X (.Assign [.Name y py] (.ListComp elt [⟨tg, iter, ifs, 0⟩] scope pos) spos) Γ O De := fun σ L H hs hr E q => by
  obtain ⟨wi, hpi, hit⟩ := h
  obtain ⟨tt, ht, htt⟩ := bts_univ (X := X) ifs hl scope
  refine toS (ps_setLc (i := j) hc hN hy hyl hsw hpi (blkOk_by ok) hg ht (te := uBE X scope elt) (fun s H C cl fp => ⟨fun pins s1 σ H1 Q I h => h s H C cl fp pins s1 I⟩) hfs) ?_
  exact lc_run hi hit htt (fun ds O1 h => h) hs hr fun acc p O' L' H' a ho le r => q.nx _ _ _ _ _ a le ((hs.mono le).set (.own p) j) r
theorem ws_setLc {elt iter : Expr} {ifs : List Expr} {scope : Scope} {pos spos py : Pos} {y : Str} {j : Nat} {De : DE} (own : List (Str × Nat)) (t : Tg) (hc : X.calm = true) (hN : X.N.Nodup) (hy : X.N[j]? = some y) (hyl : X.env.scope.names.lookup y = some .local)
    (hsw : swapsWith (.ListComp elt [⟨tg, iter, ifs, 0⟩] scope pos) (some (.Name y py)) spos.line X.env = pure true) (ok : blkC X.N X.env.scope scope own = true) (hl : ifs = [] ∨ ∃ c, ifs = [c]) (hfs : ∀ x, foldedSetIterable iter X.env x = pure x)
    (hg : ∀ (s : Shared) (H : Hp) (C : Addr) (cl : List (Str × Addr)) (fp : List Addr), PG (Bk X scope s H C cl fp) tg (tgG X.K t)) (hi : ∀ i ∈ tgIx t, i ∈ own.map (·.2))
    (h : ItD X tg iter Γ O fun ds O1 => LcD X elt ifs scope (own.map (·.2)) t Γ ds O1 fun acc => De.nx (Γ.set j (some (.lst acc))) O1) : WS X (.Assign [.Name y py] (.ListComp elt [⟨tg, iter, ifs, 0⟩] scope pos) spos) Γ O De := fun σ L H hs hr E q => by
  obtain ⟨wi, hpi, hit⟩ := h
  obtain ⟨tt, ht, htt⟩ := bts_univ (X := X) ifs hl scope
  refine toS (ps_setLc (i := j) hc hN hy hyl hsw hpi (blkOk_by ok) hg ht (te := uBE X scope elt) (fun s H C cl fp => ⟨fun pins s1 σ H1 Q I h => h s H C cl fp pins s1 I⟩) hfs) ?_
  refine lc_run (kp := fun acc p O' => De.nx (Γ.set j (some (.lst acc))) (del O' p)) hi hit htt (fun ds O1 a => ?_) hs hr fun acc p O' L' H' a ho le r => ?_
  · obtain ⟨P, p0, step, fin⟩ := a
    exact ⟨P, p0, step, fun acc hp p hn => by rw [del_put hn]; exact fin acc hp⟩
  · obtain ⟨L2, le2, is, r2⟩ := r.freeze ho
    exact q.nx _ _ _ _ _ a (le.trans le2) ((hs.mono (le.trans le2)).set is j) r2
end
end DL
/-! DL, part F: a def's body over data; own methods, classes; the law's end -/
namespace DL
open L2 PySem
open PySem.Spec PyProof.Rows

/-- fewer owned things -/
def Sub (O O' : Ow) : Prop := ∀ a od, O a = some od → O' a = some od
theorem Sub.refl (O : Ow) : Sub O O := fun _ _ h => h
theorem Sub.put {O : Ow} {p : Addr} {od : OD} (h : O p = none) : Sub O (put O p od) := fun a u e => by
  rw [put_ne (fun z => by rw [z, h] at e; cases e)]; exact e
theorem Sub.trans {A B C : Ow} (h : Sub A B) (g : Sub B C) : Sub A C := fun a u e => g a u (h a u e)
theorem R.sub {K : PySem.W.Frag} {L : Lg} {O O2 : Ow} {H : Hp} (r : R K L O H) (h : Sub O2 O) : R K L O2 H :=
  ⟨r.hp, fun a k z => by
    obtain ⟨h1, h2, h3⟩ := r.bx a k z
    refine ⟨h1, ?_, h3⟩
    cases q : O2 a with
    | none => rfl
    | some u =>
      rw [h a u q] at h2
      exact (nomatch h2), fun a u e => r.ow a u (h a u e)⟩
/-- what a def hands back may be an owned thing that changes no more; what else it owned is dropped -/
inductive Ret (k : KD) : D → Ow → Prop where
  | same {d : D} {O O' : Ow} : Sub O O' → k d O → Ret k d O'
  | frz {p : Addr} {od : OD} {O O' : Ow} : O' p = some od → Sub O (del O' p) → k od.d O → Ret k (.own p) O'
theorem Ret.of {k : KD} {d : D} {O : Ow} (h : k d O) : Ret k d O := .same (.refl O) h
theorem fol_ret {K : PySem.W.Frag} {L : Lg} {k : KD} {Q : VK} (q : Fol K L k Q) : Fol K L (Ret k) Q := fun v d O' L' H' h le i r => by
  cases h with
  | same s h => exact q _ _ _ _ _ h le i (r.sub s)
  | frz ho s h =>
    obtain ⟨L2, le2, is, r2⟩ := r.freeze ho
    obtain rfl := i.own'
    exact q _ _ _ _ _ h (le.trans le2) is (r2.sub s)

section
variable {base : Heap} {mg : Str → Option Value} {K : PySem.W.Frag} {w : World} {P : Program}
/-- the context of a def's body from which nothing is raised -/
abbrev Bo (P : Program) (w : World) (K : PySem.W.Frag) (mg : Str → Option Value) (base : Heap) (N : List Str) (qual : Str) (st : Stmt) (f : Addr) (cdv : Value) (A : Around) (outer : List Env) (s : Shared) (H : Hp) (E : XK) : Cx :=
  (cxOf CX0 P w K mg base N qual (defScope st) f cdv A outer s H E).nox
theorem fn_body {x qual : Str} {st : Stmt} {f : Addr} {fd : FuncData} {N ps : List Str} {j : Nat} {S : SpD} (F : FunX K x qual st f fd) (Sc : FnScope N ps (defScope st)) (len : ∀ ds O k kx, S ds O k kx → ds.length = ps.length)
    (h : ∀ (cdv : Value) (A : Around) (outer : List Env) (s : Shared) (H : Hp) (E : XK), A.guards = some [] → Room j (A.deeper (envOfC qual (defScope st) s.heap.objs.size f cdv)) → ∀ ds O k kx, S ds O k kx →
      WSs (Bo P w K mg base N qual st f cdv A outer s H E) (defBody st) (gst N.length ds) O { nx := fun _ O' => Ret k .non O', rt := Ret k }) : FnG P w K mg base CX0 (j + 1) f fd ps (spOf K S) := by
  refine FnG.body F Sc (fun vs H Q E ⟨ds, L, O, k, kx, hi, _, hs, _⟩ => hi.length.trans (len ds O k kx hs)) fun cdv A outer s H vs Q E hg hr hsp => ?_
  obtain ⟨ds, L, O, k, kx, hi, hR, hS, hk, _⟩ := hsp
  have z := h cdv A outer s H E hg hr ds O k kx hS (start N vs) L H (sl_start hi) hR { nx := fun _ H' => Q .non H', rt := Q }
    ⟨fun Γ' O' σ' L' H' a le _ r => fol_ret hk .non .non O' L' H' a le .non r, fol_ret hk, fun _ _ _ _ _ a => a.elim, fun _ _ _ _ _ a => a.elim⟩
  exact fun pins s' I => (PSs.nox (pssu (X := (cxOf CX0 P w K mg base N qual (defScope st) f cdv A outer s H E).nox) (defBody st))).run pins s' _ _ _ I z

/-- a def that the top has left: where it stands -/
structure Df (K : PySem.W.Frag) (mg : Str → Option Value) (x : Str) (st : Stmt) (ps : List Str) : Prop where
  ex : ∃ (f : Addr) (fd : FuncData), mg x = some (.ref f) ∧ FunX K x x st f fd ∧ Binds K fd ps [] ∧ PySem.W.keepIn K (.ref f) = true
theorem df_mk {h : Heap} {x : Str} {st : Stmt} {ps : List Str} {f : Addr} {oc : Value} {od an : Option Addr} {osl : Array (Option Value)} {kV doc pm cdv ct : Value} (X : K.In h) (G : h.Ns mainGlobals mg)
    (a : PySem.W.nsIn K mainGlobals x = some (some (.ref f))) (l : K.lookup f = some ⟨oc, od, .func (PySem.W.fnOf x x (defArgs st) (defBody st) (defScope st) .none kV doc pm an cdv ct), osl⟩) (c : PySem.W.codeIn K cdv x = true) (kp : PySem.W.keepIn K (.ref f) = true)
    (b : ∀ (kV doc pm : Value) (an : Option Addr) (cdv ct : Value) (us : List Value), us.length = ps.length → bindArgs (PySem.W.fnOf x x (defArgs st) (defBody st) (defScope st) .none kV doc pm an cdv ct) ⟨us, []⟩ = pure (ps.zip us)) : Df K mg x st ps :=
  ⟨f, _, PySem.W.mg_of X G a, funx_mk l c, .all (b _ _ _ _ _ _), kp⟩
/-- .. and what it promises -/
structure Pm (P : Program) (w : World) (K : PySem.W.Frag) (mg : Str → Option Value) (base : Heap) (x : Str) (j : Nat) (S : SpD) : Prop where
  ex : ∃ (f : Addr) (fd : FuncData) (ps : List Str), FnG P w K mg base CX0 j f fd ps (spOf K S) ∧ mg x = some (.ref f) ∧ PySem.W.keepIn K (.ref f) = true ∧ Binds K fd ps []
/-- .. with defaults, when all is given -/
theorem binds_full {fd : FuncData} {ps : List Str} {T : Addr} {ot : Value} {dt : Option Addr} {its : Array Value} {n : Nat} {st : Array (Option Value)} (lT : K.lookup T = some ⟨ot, dt, .seq its n, st⟩) (h : ∀ us : List Value, us.length = ps.length → ∃ k, bindArgs fd ⟨us, []⟩ = seqItems? (.ref T) >>= k ∧ k (some its) = pure (ps.zip us)) : Binds K fd ps [] := fun s us X hl => by
  rw [List.append_nil] at hl ⊢
  obtain ⟨k, e1, e2⟩ := h us hl
  refine L2.BindsTo.of_looks fun M => ?_
  rw [e1]
  exact L2.looks_items X lT rfl (.of_pure e2)
/-- a method of the class at C, where it stands -/
structure Dm (K : PySem.W.Frag) (C : Addr) (m qual : Str) (st : Stmt) (ps : List Str) : Prop where
  ex : ∃ (f : Addr) (fd : FuncData), Meth K C m f ∧ FunX K m qual st f fd ∧ Binds K fd ps []
theorem dm_mk {C : Addr} {m qual : Str} {st : Stmt} {ps : List Str} {f : Addr} {oc : Value} {od an : Option Addr} {osl : Array (Option Value)} {kV doc pm cdv ct : Value}
    (a : PySem.W.findIn K (.ref C) m = some (some (.ref f))) (i : PySem.W.isFn K (.ref f) = true) (l : K.lookup f = some ⟨oc, od, .func (PySem.W.fnOf m qual (defArgs st) (defBody st) (defScope st) .none kV doc pm an cdv ct), osl⟩) (c : PySem.W.codeIn K cdv qual = true) (kp : PySem.W.keepIn K (.ref f) = true)
    (b : ∀ (kV doc pm : Value) (an : Option Addr) (cdv ct : Value) (us : List Value), us.length = ps.length → bindArgs (PySem.W.fnOf m qual (defArgs st) (defBody st) (defScope st) .none kV doc pm an cdv ct) ⟨us, []⟩ = pure (ps.zip us)) : Dm K C m qual st ps :=
  ⟨f, _, ⟨a, i, kp⟩, funx_mk l c, .all (b _ _ _ _ _ _)⟩
/-- the __init__ of the class at C, every parameter given -/
structure Di (K : PySem.W.Frag) (C : Addr) (qual : Str) (st : Stmt) (ps : List Str) : Prop where
  ex : ∃ (f : Addr) (fd : FuncData), Mk K C f ∧ FunX K "__init__" qual st f fd ∧ Binds K fd ps []
theorem di_mk {C : Addr} {qual : Str} {st : Stmt} {ps : List Str} {f : Addr} {oc : Value} {od an : Option Addr} {osl : Array (Option Value)} {kV doc pm cdv ct : Value}
    (m : PySem.W.makesIn K C = true) (a : PySem.W.findIn K (.ref C) "__init__" = some (some (.ref f))) (i : PySem.W.isFn K (.ref f) = true) (kc : PySem.W.keepIn K (.ref C) = true) (l : K.lookup f = some ⟨oc, od, .func (PySem.W.fnOf "__init__" qual (defArgs st) (defBody st) (defScope st) .none kV doc pm an cdv ct), osl⟩) (c : PySem.W.codeIn K cdv qual = true)
    (b : ∀ (kV doc pm : Value) (an : Option Addr) (cdv ct : Value) (us : List Value), us.length = ps.length → bindArgs (PySem.W.fnOf "__init__" qual (defArgs st) (defBody st) (defScope st) .none kV doc pm an cdv ct) ⟨us, []⟩ = pure (ps.zip us)) : Di K C qual st ps :=
  ⟨f, _, ⟨m, a, i, kc⟩, funx_mk l c, .all (b _ _ _ _ _ _)⟩
theorem di_mkD {C : Addr} {qual : Str} {st : Stmt} {ps : List Str} {f : Addr} {oc : Value} {od an : Option Addr} {osl : Array (Option Value)} {kV doc pm cdv ct : Value} {T : Addr} {ot : Value} {dt : Option Addr} {its : Array Value} {n : Nat} {stt : Array (Option Value)}
    (m : PySem.W.makesIn K C = true) (a : PySem.W.findIn K (.ref C) "__init__" = some (some (.ref f))) (i : PySem.W.isFn K (.ref f) = true) (kc : PySem.W.keepIn K (.ref C) = true) (l : K.lookup f = some ⟨oc, od, .func (PySem.W.fnOf "__init__" qual (defArgs st) (defBody st) (defScope st) (.ref T) kV doc pm an cdv ct), osl⟩) (c : PySem.W.codeIn K cdv qual = true)
    (lT : K.lookup T = some ⟨ot, dt, .seq its n, stt⟩) (z : Nat) (hz : its.size = z)
    (b : ∀ (its : Array Value) (kV doc pm : Value) (an : Option Addr) (cdv ct : Value) (us : List Value), its.size = z → us.length = ps.length → ∃ k, bindArgs (PySem.W.fnOf "__init__" qual (defArgs st) (defBody st) (defScope st) (.ref T) kV doc pm an cdv ct) ⟨us, []⟩ = seqItems? (.ref T) >>= k ∧ k (some its) = pure (ps.zip us)) : Di K C qual st ps :=
  ⟨f, _, ⟨m, a, i, kc⟩, funx_mk l c, binds_full lT fun us hl => b its _ _ _ _ _ _ us hz hl⟩
theorem Pm.of {x : Str} {st : Stmt} {N ps : List Str} {j : Nat} {S : SpD} (T : Df K mg x st ps) (Sc : FnScope N ps (defScope st)) (len : ∀ ds O k kx, S ds O k kx → ds.length = ps.length)
    (h : ∀ (f : Addr) (cdv : Value) (A : Around) (outer : List Env) (s : Shared) (H : Hp) (E : XK), A.guards = some [] → Room j (A.deeper (envOfC x (defScope st) s.heap.objs.size f cdv)) → ∀ ds O k kx, S ds O k kx →
      WSs (Bo P w K mg base N x st f cdv A outer s H E) (defBody st) (gst N.length ds) O { nx := fun _ O' => Ret k .non O', rt := Ret k }) : Pm P w K mg base x (j + 1) S := by
  obtain ⟨f, fd, hm, F, hb, kp⟩ := T.ex
  exact ⟨f, fd, ps, fn_body F Sc len (h f), hm, kp, hb⟩
theorem Pm.kn {x : Str} {j : Nat} {S : SpD} (F : Pm P w K mg base x j S) {X : Cx} (e1 : X.prog = P) (e2 : X.w = w) (e3 : X.K = K) (e4 : X.mg = mg) (e5 : X.base = base) (gl : Gl X x) (db : (x == ("__debug__" : Str)) = false) : Kn X x j S := by
  subst e1 e2 e3 e4 e5
  exact ⟨F.ex, gl, db⟩

/-- a method that keeps a promise -/
structure Pk (P : Program) (w : World) (K : PySem.W.Frag) (mg : Str → Option Value) (base : Heap) (C : Addr) (m : Str) (j : Nat) (S : SpD) : Prop where
  ex : ∃ (f : Addr) (fd : FuncData) (ps : List Str), FnG P w K mg base CX0 j f fd ps (spOf K S) ∧ Meth K C m f ∧ Binds K fd ps []
  cl : Cls K C
theorem Pk.of {C : Addr} {m qual : Str} {st : Stmt} {N ps : List Str} {j : Nat} {S : SpD} (T : Dm K C m qual st ps) (c : Cls K C) (Sc : FnScope N ps (defScope st)) (len : ∀ ds O k kx, S ds O k kx → ds.length = ps.length)
    (h : ∀ (f : Addr) (cdv : Value) (A : Around) (outer : List Env) (s : Shared) (H : Hp) (E : XK), A.guards = some [] → Room j (A.deeper (envOfC qual (defScope st) s.heap.objs.size f cdv)) → ∀ ds O k kx, S ds O k kx →
      WSs (Bo P w K mg base N qual st f cdv A outer s H E) (defBody st) (gst N.length ds) O { nx := fun _ O' => Ret k .non O', rt := Ret k }) : Pk P w K mg base C m (j + 1) S := by
  obtain ⟨f, fd, hm, F, hb⟩ := T.ex
  exact ⟨⟨f, fd, ps, fn_body F Sc len (h f), hm, hb⟩, c⟩
/-- a class whose __init__ keeps a promise -/
structure Pc (P : Program) (w : World) (K : PySem.W.Frag) (mg : Str → Option Value) (base : Heap) (x : Str) (C : Addr) (j : Nat) (S : SpD) : Prop where
  ex : ∃ (f : Addr) (fd : FuncData) (ps : List Str), FnG P w K mg base CX0 j f fd ps (spOf K S) ∧ Mk K C f ∧ Binds K fd ps []
  mg : mg x = some (.ref C)
theorem Pc.of {x : Str} {C : Addr} {qual : Str} {st : Stmt} {N ps : List Str} {j : Nat} {S : SpD} (T : Di K C qual st ps) (hx : mg x = some (.ref C)) (Sc : FnScope N ps (defScope st)) (len : ∀ ds O k kx, S ds O k kx → ds.length = ps.length)
    (h : ∀ (f : Addr) (cdv : Value) (A : Around) (outer : List Env) (s : Shared) (H : Hp) (E : XK), A.guards = some [] → Room j (A.deeper (envOfC qual (defScope st) s.heap.objs.size f cdv)) → ∀ ds O k kx, S ds O k kx →
      WSs (Bo P w K mg base N qual st f cdv A outer s H E) (defBody st) (gst N.length ds) O { nx := fun _ O' => Ret k .non O', rt := Ret k }) : Pc P w K mg base x C (j + 1) S := by
  obtain ⟨f, fd, hm, F, hb⟩ := T.ex
  exact ⟨⟨f, fd, ps, fn_body F Sc len (h f), hm, hb⟩, hx⟩

/-! ### the law's own call -/
def sLaw (n : Nat) : SpD := fun ds O k _ => ∃ ns : List Int, ds = [.scr (ns.map .int)] ∧ ns.length ≤ n ∧ ∀ O', k (.bl true) O'
theorem script_heap {a : Addr} {h : Heap} {vs : List Value} {ns : List Int} (KX : K.In h) (ha : h.get? a = some { cls := .type "list", data := .seq vs.toArray }) (rv : Vals (ns.map V.int) vs) (hl : ns.length ≤ sizeLine) :
    ∃ H : Hp, SqL K H a (ns.map V.int) ∧ HOk P w H h ∧ (∀ b u, H b = some u → b = a ∧ K.lookup b = none ∧ ∃ o xs, u = .frz o (.lst xs)) := by
  have hz : vs.length = (ns.map V.int).length := rv.length.symm
  cases q : K.lookup a with
  | some o =>
    have e := KX a o q
    rw [ha] at e
    obtain rfl := Option.some.inj e
    refine ⟨fun _ => none, .inr ⟨_, vs.toArray, _, q, rfl, rfl, rfl, ?_, by simpa using rv⟩, fun _ _ z => (nomatch z), fun _ _ z => (nomatch z)⟩
    rw [List.size_toArray, hz, List.length_map]; exact hl
  | none =>
    refine ⟨upd (fun _ => none) a (.frz { cls := .type "list", data := .seq vs.toArray } (.lst (ns.map V.int))), .inl (.inr ⟨_, upd_same⟩), fun b u z => ?_, fun b u z => ?_⟩
    · by_cases c : b = a
      · subst c
        rw [upd_same] at z
        cases z
        exact ⟨ha, by rw [List.length_map]; exact hl,
            vs, _, rv, ha⟩
      · rw [upd_ne c] at z; cases z
    · by_cases c : b = a
      · subst c
        rw [upd_same] at z
        cases z
        exact ⟨rfl, q, _, _, rfl⟩
      · rw [upd_ne c] at z; cases z
theorem lawG {mb : Str → Option Value} {n j : Nat} {fa a : Addr} {fd : FuncData} {x : Str} {s₁ : Shared} {vs : List Value} {ns : List Int}
    (KX : K.In s₁.heap) (hns : s₁.heap.Ns mainGlobals mg) (hb : s₁.heap.Ns builtinsNs mb) (hbb : ∀ x : Str,
        x ≠ "__name__" → mb x = bootBuiltins x) (hlim : s₁.heap.NoLimit) (hg : s₁.gens = #[])
    (ha : s₁.heap.get? a = some { cls := .type "list", data := .seq vs.toArray }) (hi : IntsAre vs ns) (hn : ns.length ≤ n) (hn2 : n ≤ sizeLine) (hr : Room j callerA)
    (F : ∀ base : Heap, K.In base → base.Ns mainGlobals mg → FnG P w K mg base CX0 j fa fd [x] (spOf K (sLaw n))) (hbind : ∀ (s : Shared) (u : Value), BindsTo s fd ⟨[u], []⟩ [(x, u)]) :
    codeAny (model P w) callerA (.call (.ref fa) ⟨[.ref a],
        []⟩) (fun r s' => r = .ok (.ret (.bool true)) ∧ OldK s₁.heap s'.heap ∧ s'.os = s₁.os ∧ AllBare s'.gens) s₁ := by
  obtain ⟨H, hS, hok, hO⟩ := script_heap (P := P) (w := w) KX ha (vals_ints hi) (Nat.le_trans hn hn2)
  -- the base: what isn't tracked
  have free : ∀ {b : Addr} {o : Obj}, s₁.heap.get? b = some o → (∀ u, H b ≠ some u) → (hidT s₁.heap H).get? b = some o := fun {b o} e z => hidT_get e (by
    cases q : H b with
    | none => rfl
    | some u => exact absurd q (z u))
  have ns_base : ∀ {b : Addr} {m : Str → Option Value}, s₁.heap.Ns b m → (hidT s₁.heap H).Ns b m := fun {b m} ⟨o, es, ep, e, d, r⟩ => ⟨o, es, ep, free e (fun u z => by
    obtain ⟨rfl, _⟩ := hO b u z
    rw [ha] at e
    obtain rfl := Option.some.inj e
    exact nomatch d), d, r⟩
  have K_base : K.In (hidT s₁.heap H) := fun b o e => free (KX b o e) fun u z => by
    obtain ⟨_, q, _⟩ := hO b u z
    rw [q] at e; cases e
  have md : Mod K mg (hidT s₁.heap H) := by
    refine ⟨K_base, ns_base hns, ⟨mb, ns_base hb, hbb⟩, ?_⟩
    obtain ⟨mc, l1, l2⟩ := hlim
    exact ⟨mc, ns_base l1, l2⟩
  have e0 : Env0 P w K mg (hidT s₁.heap H) callerA [] s₁ H := ⟨rfl, md, fun b o e => of_hidT e, Nat.le_of_eq (hidT_size _ _), trivial, fun b z => (nomatch z), hok, .of_eq hg⟩
  have sp : spOf K (sLaw n) [.ref a] H (fun v _ => v = .bl true) (fun _ _ _ => False) := by
    refine ⟨[.scr (ns.map .int)], ⟨H, fun _ => none⟩, fun _ => none, fun d _ => d = .bl true, fun _ _ _ => False, ?_, .start H, ⟨ns, rfl, hn, fun _ => rfl⟩, ?_, fun _ _ _ _ _ _ _ z => z.elim⟩
    · exact .cons (.scr hS (is_ints ns)) .nil
    · rintro v d O' L' H' rfl _ i _
      exact i.bl'
  refine codeAny_mono ((F _ K_base (ns_base hns)).go callerA [] s₁ H ⟨[.ref a], []⟩ [.ref a] [.ref a] _ _ rfl hr e0 (hbind s₁ (.ref a)) (.cons rfl .nil) sp) fun r s' h => ?_
  match r, h with
  | .error _, h => exact h.elim
  | .ok .next, h => exact h.elim
  | .ok .brk, h => exact h.elim
  | .ok .cont, h => exact h.elim
  | .ok (.ret u), ⟨v, H', os, bare, un, hok', rv, q⟩ =>
    have q' : v = .bl true := q
    subst q'
    obtain rfl : u = Value.bool true := rv
    refine ⟨rfl,
        OldK.of_keep fun b o e => ?_, os, bare⟩
    cases qb : H b with
    | none => exact un.keep b o e qb (by intro z; exact nomatch z) (by intro z; exact nomatch z)
    | some t =>
      obtain ⟨_, _, ob, xs, rfl⟩ := hO b t qb
      have k1 := (hok b _ qb).1
      have k2 := (hok' b _ (un.frzs b ob _ qb)).1
      rw [e] at k1
      obtain rfl := Option.some.inj k1
      exact k2
theorem walkG {l : PySem.W.OpenLaw} {n j : Nat} {q : Program} {loose : List Str} {XP : (Str → Option Value) → Heap → Prop} {YP : World → Heap → Prop} {d : DefRec} {Kf : Params → PySem.W.Frag} {x : Str}
    (hn : l.most = some n) (hn2 : n ≤ sizeLine) (hdf : d.params.defaults = []) (hr : Room j callerA) (hY : ∀ (w : World) (h : Heap), YP w h → (Kf w.params).In h)
    (F : ∀ (w : World) (mg : Str → Option Value) (fa : Addr) (h : Heap), (Kf w.params).In h → h.Ns mainGlobals mg → mg d.name = some (.ref fa) → ∃ fd : FuncData, (∀ (s : Shared) (u : Value), BindsTo s fd ⟨[u], []⟩ [(x, u)]) ∧
      ∀ base : Heap, (Kf w.params).In base → base.Ns mainGlobals mg → FnG l.prog w (Kf w.params) mg base CX0 j fa fd [x] (spOf (Kf w.params) (sLaw n))) :
    PySem.W.WalkO q loose XP YP l.row.toRowW d [] (fun
        f vs => PySem.call f vs) := by
  refine Att.attach_call hn hdf fun w s₀ s₁ mg mb fa o pm
      cd doc a vs ns G Y ho hd hcd hmg hobj hints hlen hg => ?_
  have KX := hY w _ Y
  obtain ⟨fd, hb,
      hF⟩ := F w mg fa _ KX G.T.g hmg
  exact lawG KX G.T.g G.T.b G.T.builtins G.T.nolimit hg hobj hints hlen hn2 hr hF hb
end
end DL
/-! DL, part G: repr, own methods, new things of own classes, dicts copied and updated, texts -/
namespace DL
open L2 PySem
open PySem.Spec PyProof.Rows

/-! ### repr -/
section
variable {X : Cx} {Γ : Sg} {O : Ow} {k : KD}
mutual
theorem py_noDict : ∀ {d : D}, d.isPy = true → d.py.hasDict = false
  | .non, _ => by simp [D.py, PyData.hasDict]
  | .bl _, _ => by simp [D.py, PyData.hasDict]
  | .int _, _ => by simp [D.py, PyData.hasDict]
  | .str _, _ => by simp [D.py, PyData.hasDict]
  | .lst ds, h => by rw [D.py, PyData.hasDict]; exact pys_noDict (by simpa [D.isPy] using h)
  | .tup ds, h => by rw [D.py, PyData.hasDict]; exact pys_noDict (by simpa [D.isPy] using h)
  | .scr ds, h => by rw [D.py, PyData.hasDict]; exact pys_noDict (by simpa [D.isPy] using h)
  | .byt _, h => by simp [D.isPy] at h
  | .ty _, h => by simp [D.isPy] at h
  | .own _, h => by simp [D.isPy] at h
  | .box, h => by simp [D.isPy] at h
  | .dic _, h => by simp [D.isPy] at h
  | .ins _ _, h => by simp [D.isPy] at h
theorem pys_noDict : ∀ {ds : List D}, D.arePy ds = true → PyData.hasDictAll (D.pys ds) = false
  | [], _ => by simp [D.pys, PyData.hasDictAll]
  | d :: ds, h => by
    rw [D.arePy, Bool.and_eq_true] at h
    rw [D.pys, PyData.hasDictAll, py_noDict h.1, pys_noDict h.2]
    rfl
end
theorem wc_repr {d : D} (hg : X.A.guards = some []) (hu : X.A.units + 64 < cLine) (hp : d.isPy = true) (hs : d.py.showable = true) (hd : d.py.depth ≤ 60) (hz : d.py.shown.length ≤ sizeLine) (h : k (.str d.py.shown) O) : WC X (.builtin "repr") [d] O k := fun vs L H is hr Q q => by
  obtain ⟨v, rfl, i⟩ := is.one'
  have fin : Q (.str d.py.shown) H := q _ _ _ _ _ h (.refl L) (.str _) hr
  intro pins s σ us I rx
  obtain ⟨u, rfl, r1⟩ := Vals.one rx
  obtain ⟨as, rd⟩ := Dp.reads I d.py v u (i.dp hr hp) r1
  have flat : ∀ (x : Str), d.py.shown = x → ∀ s' : Shared, Inv X pins σ H s' → ∀ t, EP X pins σ Q (.str x t) s' := fun x e s' I' t => ⟨.str x, H, I', ⟨t, rfl⟩, e ▸ fin⟩
  have deep : ∀ a, u = .ref a → wpAny (model X.prog X.w) X.A (call (.builtin "repr") [u]) (EP X pins σ Q) X.xe s := fun a e => by
    subst e
    refine repr_of_reads' rd hs (PyData.noDict_hsm (py_noDict hp)) hg (by omega) (fun _ _ z => z) (fun h' t tk kp => ?_) hz
    exact ⟨.str d.py.shown, H, I.kept (t' := tk) kp, ⟨t, rfl⟩, fin⟩
  cases i with
  | non => cases r1; exact P.repr_of_none (flat _ (by simp [D.py, PyData.shown]) _ (I.tok _) _)
  | bl b => cases r1; exact P.repr_of_bool (flat _ (by cases b <;> simp [D.py, PyData.shown]) _ (I.tok _) _)
  | int n => obtain ⟨t, rfl⟩ := r1; exact P.repr_of_int (by simpa [D.py, PyData.showable] using hs) (flat _ (by simp [D.py, PyData.shown]) _ (I.tok _) _)
  | str x => obtain ⟨t, rfl⟩ := r1; exact P.repr_of_str (flat _ (by simp [D.py, PyData.shown]) _ (I.tok _) _) (by simpa [D.py, PyData.shown] using hz)
  | lst _ _ => exact deep _ r1
  | scr _ _ => exact deep _ r1
  | tup _ _ => exact deep _ r1
  | byt => simp [D.isPy] at hp
  | ty => simp [D.isPy] at hp
  | own => simp [D.isPy] at hp
  | box _ => simp [D.isPy] at hp
  | dic _ _ _ => simp [D.isPy] at hp
  | ins _ _ _ => simp [D.isPy] at hp
  | exc _ _ _ => simp [D.isPy] at hp
  | any => simp [D.isPy] at hp
  | deal => simp [D.isPy] at hp
  | nums => simp [D.isPy] at hp

/-! ### own methods, new things of own classes -/
/-- a method of the class at C that is known -/
structure Km (X : Cx) (C : Addr) (m : Str) (j : Nat) (S : SpD) : Prop where
  ex : ∃ (f : Addr) (fd : FuncData) (ps : List Str), FnG X.prog X.w X.K X.mg X.base CX0 j f fd ps (spOf X.K S) ∧ Meth X.K C m f ∧ Binds X.K fd ps []
  cl : Cls X.K C
theorem Pk.km {P : Program} {w : World} {K : PySem.W.Frag} {mg : Str → Option Value} {base : Heap} {C : Addr} {m : Str} {j : Nat} {S : SpD} (F : Pk P w K mg base C m j S) {X : Cx} (e1 : X.prog = P) (e2 : X.w = w) (e3 : X.K = K) (e4 : X.mg = mg) (e5 : X.base = base) : Km X C m j S := by
  subst e1 e2 e3 e4 e5
  exact ⟨F.ex, F.cl⟩
theorem run_g {pins : List (Addr × Obj)} {σ : L2.St} {H : Hp} {s : Shared} {Q : VK} {us : List Value} {vs : List V} {j : Nat} {f : Addr} {fd : FuncData} {ps : List Str} {sp : Sp} (G : FnG X.prog X.w X.K X.mg X.base CX0 j f fd ps sp) (hgd : X.A.guards = some []) (hr : Room j X.A) (hb : Binds X.K fd ps [])
    (I : Inv X pins σ H s) (r : Vals vs us) (h : sp vs H Q E0) : wpAny (model X.prog X.w) X.A (call (.ref f) us) (EP X pins σ Q) X.xe s := by
  have hl : (us ++ []).length = ps.length := by rw [List.append_nil, ← r.length]; exact G.ln _ _ _ _ h
  refine wpAny_call (codeAny_mono (G.go X.A X.stack s H ⟨us, []⟩ (us ++ []) vs Q E0 hgd hr I.env0 (hb s us I.kIn hl) (by rw [List.append_nil]; exact r) h) fun r s' hq => ?_)
  match r, hq with
  | .ok (.ret u), hq => exact I.after hq
  | .ok .next, hq => exact hq.elim
  | .ok .brk, hq => exact hq.elim
  | .ok .cont, hq => exact hq.elim
  | .error e, hq => exact hq.elim
theorem sp_of {K : PySem.W.Frag} {S : SpD} {vs : List V} {ds : List D} {L : Lg} {H : Hp} {Q : VK} (h : S ds O k fun _ _ _ => False) (i : IsL K L vs ds) (r : R K L O H) (q : Fol K L k Q) : spOf K S vs H Q E0 :=
  ⟨ds, L, O, k, fun _ _ _ => False, i, r, h, q, fun _ _ _ _ _ _ _ z => z.elim⟩
theorem we_meth {C : Addr} {m : Str} {j : Nat} {S : SpD} {o e : Expr} {es : List Expr} {apos pos : Pos} {pl : Sem Bool} (F : Km X C m j S) (hgd : X.A.guards = some []) (hr : Room j X.A)
    (hst : starEach (e :: es) X.env = (false, eval e X.env) :: starEach es X.env) (hpl : (backTo pos (starEach es X.env)).any (·.1) = false)
    (ht : eval (.Call (.Attribute o m
        apos) (e :: es) [] pos) X.env = (do
      let obj ← eval o X.env
      standAt apos.atName
      let (fn, head) ← holding [obj] (getMethod obj m pl)
      callWith pos fn head (backTo pos (starEach (e :: es) X.env)) (backToKw pos (keywordEach [] X.env))))
    (h : WE X o Γ O fun x O1 => ∃ fds, InD O1 x C fds ∧ fds.lookup m = none ∧ WA X (e :: es) Γ O1 fun ds O2 => S (x :: ds) O2 k fun _ _ _ => False) : WE X (.Call (.Attribute o m apos) (e :: es) [] pos) Γ O k := fun σ L H hs hR Q q pins s I => by
  obtain ⟨f, fd, ps, G, hm, hb⟩ := F.ex
  refine PySem.W.methodCall_KW (pl := pl) (thn (h σ L H hs hR (fun v H1 => ∃ x O1 L1, (∃ fds, InD O1 x C fds ∧ fds.lookup m = none ∧ WA X (e :: es) Γ O1 fun ds O2 => S (x :: ds) O2 k fun _ _ _ => False) ∧ L.le L1 ∧ Is X.K L1 v x ∧ R X.K L1 O1 H1) (fun v x O1 L1 H1 a b c d => ⟨x, O1, L1, a, b, c, d⟩) pins s I)
    fun u s1 ⟨v, H1, I1, rv, x, O1, L1, ⟨fds, hi, hl, h2⟩, le1, is1, r1⟩ => ?_) ht
  obtain ⟨a, dx, fs, rfl, g1, g2, g3⟩ := inD_of r1 hi is1
  obtain rfl : u = Value.ref a := rv
  refine getmeth_ok I1 g1 F.cl hm ((lookup_is g2 g3).2 hl) ?_
  refine PySem.W.callWith_K (first := [.ref a]) (h₀ := X.base) I1.ok.mod.kin hm.kp (thn (h2 σ L1 H1 (hs.mono le1) r1 (fun vs H2 => ∃ ds O2 L2, (S (x :: ds) O2 k fun _ _ _ => False) ∧ L1.le L2 ∧ IsL X.K L2 vs ds ∧ R X.K L2 O2 H2) (fun vs ds O2 L2 H2 a b c d => ⟨ds, O2, L2, a, b, c, d⟩) pos pins s1 I1)
    fun us s2 ⟨vs, H2, I2, rvs, ds, O2, L2, h3, le2, is2, r2⟩ => ⟨I2.kIn, ?_⟩) hst hpl
  exact run_g (us := .ref a :: us) (vs := .ref a :: vs) G hgd hr hb I2 (.cons rfl rvs) (sp_of h3 (.cons (is1.mono le2) is2) r2 (q.le (le1.trans le2)))
theorem we_meth0 {C : Addr} {m : Str} {j : Nat} {S : SpD} {o : Expr} {apos pos : Pos} {pl : Sem Bool} (F : Km X C m j S) (hgd : X.A.guards = some []) (hr : Room j X.A)
    (ht : eval (.Call (.Attribute o
        m apos) [] [] pos) X.env = (do
      let obj ← eval o X.env
      standAt apos.atName
      let (fn, head) ← holding [obj] (getMethod obj m pl)
      callWith pos fn head (backTo pos (starEach [] X.env)) (backToKw pos (keywordEach [] X.env))))
    (h : WE X o Γ O fun x O1 => ∃ fds, InD O1 x C fds ∧ fds.lookup m = none ∧ S [x] O1 k fun _ _ _ => False) : WE X (.Call (.Attribute o m apos) [] [] pos) Γ O k := fun σ L H hs hR Q q pins s I => by
  obtain ⟨f, fd, ps, G, hm, hb⟩ := F.ex
  refine PySem.W.methodCall_KW (pl := pl) (thn (h σ L H hs hR (fun v H1 => ∃ x O1 L1, (∃ fds, InD O1 x C fds ∧ fds.lookup m = none ∧ S [x] O1 k fun _ _ _ => False) ∧ L.le L1 ∧ Is X.K L1 v x ∧ R X.K L1 O1 H1) (fun v x O1 L1 H1 a b c d => ⟨x, O1, L1, a, b, c, d⟩) pins s I)
    fun u s1 ⟨v, H1, I1, rv, x, O1, L1, ⟨fds, hi, hl, h2⟩, le1, is1, r1⟩ => ?_) ht
  obtain ⟨a, dx, fs, rfl, g1, g2, g3⟩ := inD_of r1 hi is1
  obtain rfl : u = Value.ref a := rv
  refine getmeth_ok I1 g1 F.cl hm ((lookup_is g2 g3).2 hl) ?_
  exact PySem.W.callWith_K0 (first := [.ref a]) I1.kIn hm.kp (run_g (us := [.ref a]) (vs := [.ref a]) G hgd hr hb I1 (.cons rfl .nil) (sp_of h2 (.cons is1 .nil) r1 (q.le le1)))
/-- a thing beside what is known -/
theorem R.aside {K : PySem.W.Frag} {L : Lg} {H : Hp} {p : Addr} {o : HO} (r : R K L O H) (h : H p = none) : R K L O (upd H p o) := by
  obtain ⟨f1, f2, f3⟩ := r.free h
  refine ⟨fun a u e => ?_, fun a k z => ?_, fun a u e => ?_⟩
  · rw [upd_ne (ne_of_none e f1)]; exact r.hp _ _ e
  · obtain ⟨h1, h2, h3⟩ := r.bx a k z
    have c : a ≠ p := fun q => by rw [q, f3] at z; cases z
    exact ⟨h1, h2, by rw [upd_ne c]; exact h3⟩
  · obtain ⟨h1, h2⟩ := r.ow a u e
    exact ⟨h1, h2.mono (.refl L) (upd_ne (fun q => by rw [q, f2] at e; cases e))⟩
/-- the class at C and its __init__, known -/
structure Kc (X : Cx) (x : Str) (C : Addr) (j : Nat) (S : SpD) : Prop where
  ex : ∃ (f : Addr) (fd : FuncData) (ps : List Str), FnG X.prog X.w X.K X.mg X.base CX0 j f fd ps (spOf X.K S) ∧ Mk X.K C f ∧ Binds X.K fd ps []
  mg : X.mg x = some (.ref C)
  gl : Gl X x
  db : (x == ("__debug__" : Str)) = false
theorem Pc.kc {P : Program} {w : World} {K : PySem.W.Frag} {mg : Str → Option Value} {base : Heap} {x : Str} {C : Addr} {j : Nat} {S : SpD} (F : Pc P w K mg base x C j S) {X : Cx} (e1 : X.prog = P) (e2 : X.w = w) (e3 : X.K = K) (e4 : X.mg = mg) (e5 : X.base = base) (gl : Gl X x) (db : (x == ("__debug__" : Str)) = false) : Kc X x C j S := by
  subst e1 e2 e3 e4 e5
  exact ⟨F.ex, F.mg, gl, db⟩
theorem make_guards {A : Around} {C : Addr} {us : List Value} (h : A.guards = some []) : (A.under (.builtin "type.__call__" ⟨.ref C :: us, []⟩)).guards = some [] := by
  show pushGuards (Code.guards (.builtin "type.__call__" ⟨.ref C :: us, []⟩)) A.guards = some []
  rw [h]
  first | rfl | (simp [pushGuards, Code.guards, Code.isGuard, guardIds])
theorem we_makeO {x : Str} {C : Addr} {j : Nat} {S : SpD} {e : Expr} {es : List Expr} {p pos : Pos} (F : Kc X x C j S) (hgd : X.A.guards = some []) (hr : Room (j + 1) X.A) (he : starEach (e :: es) X.env = (false, eval e X.env) :: starEach es X.env) (hpl : (backTo pos (starEach es X.env)).any (·.1) = false)
    (h : WA X (e :: es) Γ O fun ds O1 => ∀ p, O1 p = none → S (.own p :: ds) (put O1 p (.ins C [])) (fun d O2 => d = .non ∧ k (.own p) O2) fun _ _ _ => False) : WE X (.Call (.Name x p) (e :: es) [] pos) Γ O k := fun σ L H hs hR Q q pins s I => by
  obtain ⟨f, fd, ps, G, M, hb⟩ := F.ex
  refine wpAny_Call_Name_kw (ld_glob I F.gl F.mg ?_ F.db)
  refine PySem.W.callWith_K (h₀ := X.base) I.ok.mod.kin M.kp (thn (h σ L H hs hR (fun vs H1 => ∃ ds O1 L1, (∀ p, O1 p = none → S (.own p :: ds) (put O1 p (.ins C [])) (fun d O2 => d = .non ∧ k (.own p) O2) fun _ _ _ => False) ∧ L.le L1 ∧ IsL X.K L1 vs ds ∧ R X.K L1 O1 H1) (fun vs ds O1 L1 H1 a b c d => ⟨ds, O1, L1, a, b, c, d⟩) pos pins s I)
    fun us s1 ⟨vs, H1, I1, rv, ds, O1, L1, h1, le1, is1, r1⟩ => ⟨I1.kIn, ?_⟩) he hpl
  have n1 : H1 (s1.heap.objs.size + 1) = none := I1.hok.fresh (Nat.le_succ _)
  have n2 : H1 s1.heap.objs.size = none := I1.hok.fresh (Nat.le_refl _)
  have ne : s1.heap.objs.size + 1 ≠ s1.heap.objs.size := Nat.succ_ne_self _
  have I2 := Inv.made (C := C) I1
  have ra := r1.aside (o := .own (s1.heap.objs.size + 1)) n2
  have n3 : upd H1 s1.heap.objs.size (.own (s1.heap.objs.size + 1)) (s1.heap.objs.size + 1) = none := by rw [upd_ne ne]; exact n1
  have rb := ra.newOwn (p := s1.heap.objs.size + 1) (o := .ins C s1.heap.objs.size []) (od := .ins C []) n3 ⟨_, [], upd_same, rfl, .nil⟩
  have sp := sp_of (K := X.K) (L := L1) (Q := fun v H2 => v = .non ∧ Q (.ref (s1.heap.objs.size + 1)) H2) (h1 _ (ra.free n3).2.1) (.cons (.own (s1.heap.objs.size + 1)) is1) rb fun v d O2 L2 H2 ⟨hd, hk⟩ le2 i2 r2 => by
    subst hd
    exact ⟨i2.non', q _ _ _ _ _ hk (le1.trans le2) (.own _) r2⟩
  have r2 : Vals (V.ref (s1.heap.objs.size + 1) :: vs) (Value.ref (s1.heap.objs.size + 1) :: us) := .cons rfl rv
  have hl : (Value.ref (s1.heap.objs.size + 1) :: us ++ []).length = ps.length := by
    rw [List.append_nil, ← r2.length]; exact G.ln _ _ _ _ sp
  refine wpAny_call (make_map (f := f) I1.kIn M.makes M.init (beq_iff_eq.mp M.fn) (codeAny_mono (G.go _ X.stack _ _ ⟨Value.ref (s1.heap.objs.size + 1) :: us, []⟩ (Value.ref (s1.heap.objs.size + 1) :: us ++ []) _ _ E0 (make_guards hgd) (hr.make C us []) (I2.env0.make C us []) (hb _ _ I2.kIn hl) (by rw [List.append_nil]; exact r2) sp) fun r s' hq => ?_))
  match r, hq with
  | .ok (.ret u), hq =>
    obtain ⟨v, H', I3, rv', ev, q3⟩ := I2.after hq
    subst ev
    exact ⟨rv', ⟨V.ref (s1.heap.objs.size + 1), H', I3, rfl, q3⟩⟩
  | .ok .next, hq => exact hq.elim
  | .ok .brk, hq => exact hq.elim
  | .ok .cont, hq => exact hq.elim
  | .error e, hq => exact hq.elim
/-- an owned thing handed on as one that stays -/
def Fz (k : KD) (d : D) (O : Ow) : Prop := ∃ p od, d = .own p ∧ O p = some od ∧ k od.d (del O p)
theorem we_fz {e : Expr} (h : WE X e Γ O (Fz k)) : WE X e Γ O k := we_freeze (h.imp fun _ _ z => .inr z)
theorem fz_put {p : Addr} {od : OD} (hn : O p = none) (h : k od.d O) : Fz k (.own p) (put O p od) := ⟨p, od, rfl, put_same, by rw [del_put hn]; exact h⟩
/-- .. one that changes no more -/
theorem we_make {x : Str} {C : Addr} {j : Nat} {S : SpD} {e : Expr} {es : List Expr} {p pos : Pos} (F : Kc X x C j S) (hgd : X.A.guards = some []) (hr : Room (j + 1) X.A) (he : starEach (e :: es) X.env = (false, eval e X.env) :: starEach es X.env) (hpl : (backTo pos (starEach es X.env)).any (·.1) = false)
    (h : WA X (e :: es) Γ O fun ds O1 => ∀ p, O1 p = none → S (.own p :: ds) (put O1 p (.ins C [])) (fun d O2 => d = .non ∧ Fz k (.own p) O2) fun _ _ _ => False) : WE X (.Call (.Name x p) (e :: es) [] pos) Γ O k := we_fz (we_makeO F hgd hr he hpl h)

/-! ### dicts -/
theorem wc_dictO {d : D} {kds : List (Key × D)} (hd : DcD O d kds) (h : ∀ p, O p = none → k (.own p) (put O p (.dic kds))) : WC X (.type "dict") [d] O k := fun vs L H is hr Q q => by
  obtain ⟨v, rfl, a⟩ := is.one'
  obtain ⟨p, kvs, rfl, s1, s2, s3⟩ := dcD_of hr hd a
  refine toC call_dictD ⟨p, kvs, rfl, .inl s1, fun l hl => ?_⟩
  exact q _ _ _ _ _ (h l (hr.free hl).2.1) (.refl L) (.own l) (hr.newOwn hl ⟨kvs, upd_same, s2, s3⟩)
/-- d.update(e), two dicts of which the first one is owned -/
def mergeDk (kds more : List (Key × D)) : List (Key × D) := more.foldl (fun acc p => putDk acc p.1 p.2) kds
theorem merge_is {K : PySem.W.Frag} {L : Lg} : ∀ {more : List (Key × V)} {mored : List (Key × D)}, more.map (·.1) = mored.map (·.1) → IsL K L (more.map (·.2)) (mored.map (·.2)) → ∀ {l : List (Key × V)} {m : List (Key × D)}, l.map (·.1) = m.map (·.1) → IsL K L (l.map (·.2)) (m.map (·.2)) →
    (mergeK l more).map (·.1) = (mergeDk m mored).map (·.1) ∧ IsL K L ((mergeK l more).map (·.2)) ((mergeDk m mored).map (·.2))
  | [], [], _, _, _, _, h, t => ⟨h, t⟩
  | (y, v) :: more, (z, d) :: mored, e, i, l, m, h, t => by
    simp only [List.map_cons,
        List.cons.injEq] at e
    obtain ⟨e1, e2⟩ := e
    subst e1
    rw [List.map_cons, List.map_cons] at i
    cases i with
    | cons i1 i2 =>
      obtain ⟨p1, p2⟩ := putK_is i1 y h t
      exact merge_is e2 i2 p1 p2
  | [], _ :: _, e, _, _, _, _, _ => by simp at e
  | _ :: _, [], e, _, _, _, _, _ => by simp at e
theorem kv_merge {vs ws : List (Key × Value)} {more kvs : List (Key × V)} (r : KV more ws) : KV kvs vs → KV (mergeK kvs more) (merged vs ws) := by
  intro r0
  unfold mergeK merged
  unfold KV at r
  induction r generalizing
      kvs vs with
  | nil => exact r0
  | @cons p q ps qs h t ih =>
    obtain ⟨e, rv⟩ := h
    rw [List.foldl_cons, List.foldl_cons, ← e]
    exact ih (r0.put p.1 rv)
def rUpdD : V → List V → Hp → VK → Prop := fun x xs H Q => ∃ a b kvs more, x = .ref a ∧ xs = [.ref b] ∧ a ≠ b ∧ H a = some (.dK kvs) ∧ H b = some (.dK more) ∧ kvs.length + more.length ≤ sizeLine ∧ Q .non (upd H a (.dK (mergeK kvs more)))
theorem mergeK_len : ∀ (more kvs : List (Key × V)), (mergeK kvs more).length ≤ kvs.length + more.length
  | [], kvs => Nat.le_refl _
  | p :: more, kvs => by
    have h := mergeK_len more (putK kvs p.1 p.2)
    have h2 := length_putK
        kvs p.1 p.2
    show (mergeK (putK kvs p.1 p.2) more).length ≤ _
    rw [List.length_cons]
    omega
theorem mt_updD : MtR X "dict.update" rUpdD := by
  intro pins s σ H x
      xs v us Q I rx rxs h
  obtain ⟨a, b, kvs, more, rfl, rfl, hab, ha, hb, hz, q⟩ := h
  obtain rfl : v =
      Value.ref a := rx
  obtain ⟨u, rfl, r1⟩ := Vals.one rxs
  obtain rfl : u = Value.ref b := r1
  obtain ⟨_, na, vs, ra, da⟩ := dk_of I.hok ha
  obtain ⟨_, nb, ws, rb, db⟩ := dk_of I.hok hb
  refine call_meetsIn PySem.F.slot_dict_update da.typeIs PySem.F.entry_dict_update (PySem.F.args_dict_update_2 _ _) (meets_dict_update (mixKind X.prog X.w) a b hab nb) ⟨vs, ws, da, db, by rw [← Paired.length ra, ← Paired.length rb]; exact hz, fun h' d1 d2 sb => ?_⟩
  have there : ∃ o, h'.get? a = some o := by
    obtain ⟨o, es, ep, e, _⟩ := d1
    exact ⟨o, e⟩
  exact ⟨.non, _, d_write (t' := s.toks) I (by rw [ha]; exact True.intro) sb there (dk_new (Nat.le_trans (mergeK_len more kvs) hz) na (kv_merge rb ra) d1), rfl, q⟩
theorem wm_update {p : Addr} {e : D} {kds more : List (Key × D)} (ho : O p = some (.dic kds)) (hd : e = .dic more) (hz : kds.length + more.length ≤ sizeLine) (h : k .non (put O p (.dic (mergeDk kds more)))) : WM X "dict.update" (.own p) [e] O k := fun vx vs L H ix is hr Q q => by
  subst hd
  obtain ⟨v, rfl, i1⟩ := is.one'
  obtain ⟨b, ws, rfl, s1, s2, s3⟩ := i1.dic'
  obtain ⟨kvs, g1, g2, g3⟩ := own_dic hr ho
  obtain rfl := ix.own'
  have nb : p ≠ b := fun z => by
    have := (hr.ow _ _ ho).1
    rw [z, s1] at this; cases this
  have l1 : kvs.length = kds.length := by rw [← List.length_map (f := (·.1)), g2, List.length_map]
  have l2 : ws.length = more.length := by rw [← List.length_map (f := (·.1)), s2, List.length_map]
  obtain ⟨p1, p2⟩ := merge_is s2 s3 g2 g3
  refine toM mt_updD ⟨p, b, kvs, ws, rfl, rfl, nb, g1, hr.hp _ _ s1, by rw [l1, l2]; exact hz, ?_⟩
  exact q _ _ _ _ _ h (.refl L) .non (hr.change ho ⟨_, upd_same, p1, p2⟩)
/-- {k: v, ..} written, keys and values from the left; a dict that stays -/
def WPs (X : Cx) : List (Option Expr) → List Expr → Sg → Ow → (List (D × D) → Ow → Prop) → Prop
  | [], [], _, O, kp => kp [] O
  | some a :: ks, b :: vs, Γ, O, kp => WE X a Γ O fun x O1 => WE X b Γ O1 fun y O2 => WPs X ks vs Γ O2 fun r O3 => kp ((x, y) :: r) O3
  | _, _, _, _, _ => False
theorem pps_univ : ∀ (ks : List (Option Expr)) (vs : List Expr) (pos : Pos), ks.all (·.isSome) = true → ks.length = vs.length → ∃ trs, PPs X pos ks vs trs ∧ ∀ Γ O kp, WPs X ks vs Γ O kp → ∀ σ L H, Sl X.K L σ Γ → R X.K L O H → ∀ Q : List (V × V) → Hp → Prop,
    (∀ ps pd O' L' H', kp pd O' → L.le L' → IsL X.K L' (ps.map (·.1)) (pd.map (·.1)) → IsL X.K L' (ps.map (·.2)) (pd.map (·.2)) → R X.K L' O' H' → Q ps H') → tPairs trs σ H Q
  | [], [], pos, _, _ => ⟨[], pps_nil, fun Γ O kp h σ L H hs hr Q q => q [] [] _ _ _ h (.refl L) .nil .nil hr⟩
  | some a :: ks, b :: vs, pos, h1, h2 => by
    obtain ⟨trs, hp, hq⟩ := pps_univ ks vs pos (by simpa using h1) (by simpa using h2)
    refine ⟨(uE X a, uE X b) :: trs, pps_cons (pu a) (pu b) hp, fun Γ O kp h σ L H hs hr Q q => ?_⟩
    have h' : WE X a Γ O fun x O1 => WE X b Γ O1 fun y O2 => WPs X ks vs Γ O2 fun r O3 => kp ((x, y) :: r) O3 := h
    show uE X a σ H fun x H1 => uE X b σ H1 fun y H2 => tPairs trs σ H2 fun ps H3 => Q ((x, y) :: ps) H3
    refine h' σ L H hs hr _ fun x dx O1 L1 H1 h1 e1 i1 r1 => ?_
    refine h1 σ L1 H1 (hs.mono e1) r1 _ fun y dy O2 L2 H2 h2 e2 i2 r2 => ?_
    refine hq _ _ _ h2 σ L2 H2 ((hs.mono e1).mono e2) r2 _ fun ps pd O3 L3 H3 h3 e3 i3 j3 r3 => ?_
    exact q _ _ _ _ _ h3 ((e1.trans e2).trans e3) (.cons (i1.mono (e2.trans e3)) i3) (.cons (i2.mono e3) j3) r3
  | none :: _, _, _, h, _ => by simp at h
  | some _ :: _, [], _, _, h => by simp at h
  | [], _ :: _, _, _, h => by simp at h
theorem keys_kV {K : PySem.W.Frag} {L : Lg} : ∀ {ps : List (V × V)} {kds : List (Key × D)}, IsL K L (ps.map (·.1)) (kds.map fun kv => kD kv.1) → IsL K L (ps.map (·.2)) (kds.map (·.2)) → ∃ kvs : List (Key × V), ps = kvs.map (fun kv => (kV kv.1, kv.2)) ∧ kvs.map (·.1) = kds.map (·.1) ∧ IsL K L (kvs.map (·.2)) (kds.map (·.2))
  | [], [], _, _ => ⟨[], rfl, rfl, .nil⟩
  | (a, b) :: ps, (y, d) :: kds, h, t => by
    rw [List.map_cons, List.map_cons] at h t
    cases h with
    | cons h1 h2 => cases t with
      | cons t1 t2 =>
        obtain ⟨kvs, e1, e2, e3⟩ := keys_kV h2 t2
        have z : a = kV y := kD_is h1
        refine ⟨(y, b) :: kvs, ?_, ?_, .cons t1 e3⟩
        · rw [e1, z]; rfl
        · rw [List.map_cons, List.map_cons, e2]
  | [], _ :: _, h, _ => by rw [List.map_cons] at h; cases h
  | _ :: _, [], h, _ => by rw [List.map_cons] at h; cases h
theorem we_dispO {keys : List (Option Expr)} {values : List Expr} {pos : Pos} (hall : keys.all (·.isSome) = true) (hl : keys.length = values.length) (h0 : keys ≠ []) (h15 : keys.length ≤ 15)
    (h : ∀ p, O p = none → WPs X keys values Γ (put O p (.dic [])) fun pd O2 => ∃ kds : List (Key × D), pd = kds.map (fun kv => (kD kv.1, kv.2)) ∧ kds.length ≤ 15 ∧ O2 p = some (.dic []) ∧ k (.own p) (put O2 p (.dic (mergeDk [] kds)))) : WE X (.Dict keys values pos) Γ O k := fun σ L H hs hr Q q => by
  obtain ⟨trs, hp, hq⟩ := pps_univ (X := X) keys values pos hall hl
  refine toE (pe_disp hp hall hl h0 h15) ?_
  intro p hpn
  have hpo := (hr.free hpn).2.1
  refine hq _ _ _ (h p hpo) σ L _ hs (hr.newOwn (o := .dK []) (od := .dic []) hpn ⟨[], upd_same, rfl, .nil⟩) _ fun ps pd O2 L2 H2 h2 e2 i2 j2 r2 => ?_
  obtain ⟨kds, rfl, hz, ho, h3⟩ := h2
  rw [List.map_map] at i2 j2
  obtain ⟨kvs, rfl, k1, k2⟩ := keys_kV i2 j2
  obtain ⟨kv0, g1, g2, g3⟩ := own_dic r2 ho
  have e0 : kv0 = [] := by
    cases kv0 with
    | nil => rfl
    | cons a b => simp at g2
  subst e0
  have l1 : kvs.length = kds.length := by rw [← List.length_map (f := (·.1)), k1, List.length_map]
  obtain ⟨p1, p2⟩ := merge_is k1 k2 (l := []) (m := []) rfl .nil
  exact ⟨g1, kvs, rfl, by rw [l1]; exact hz, q _ _ _ _ _ h3 e2 (.own p) (r2.change ho ⟨_, upd_same, p1, p2⟩)⟩
theorem we_disp {keys : List (Option Expr)} {values : List Expr} {pos : Pos} (hall : keys.all (·.isSome) = true) (hl : keys.length = values.length) (h0 : keys ≠ []) (h15 : keys.length ≤ 15)
    (h : ∀ p, O p = none → WPs X keys values Γ (put O p (.dic [])) fun pd O2 => ∃ kds : List (Key × D), pd = kds.map (fun kv => (kD kv.1, kv.2)) ∧ kds.length ≤ 15 ∧ O2 p = some (.dic []) ∧ k (.dic (mergeDk [] kds)) (del O2 p)) : WE X (.Dict keys values pos) Γ O k := by
  refine we_fz (we_dispO hall hl h0 h15 fun p hp => ?_)
  have z := h p hp
  have gen : ∀ (ks : List (Option Expr)) (vs : List Expr) (O : Ow) (kp kp' : List (D × D) → Ow → Prop), (∀ a b, kp a b → kp' a b) → WPs X ks vs Γ O kp → WPs X ks vs Γ O kp' := by
    intro ks
    induction ks with
    | nil => intro vs; cases vs with
      | nil => exact fun O kp kp' i h => i _ _ h
      | cons b vs => exact fun O kp kp' i h => h
    | cons a ks ih =>
      intro vs
      cases a with
      | none => cases vs with
        | nil => exact fun O kp kp' i h => h
        | cons b vs => exact fun O kp kp' i h => h
      | some a => cases vs with
        | nil => exact fun O kp kp' i h => h
        | cons b vs =>
          intro O kp kp' i h
          have h' : WE X a Γ O fun x O1 => WE X b Γ O1 fun y O2 => WPs X ks vs Γ O2 fun r O3 => kp ((x, y) :: r) O3 := h
          exact h'.imp fun x O1 h1 => h1.imp fun y O2 h2 => ih vs O2 _ _ (fun a b => i _ _) h2
  refine gen _ _ _ _ _ (fun pd O2 hh => ?_) z
  obtain ⟨kds, e1, e2, e3, e4⟩ := hh
  refine ⟨kds, e1, e2, e3, p, _, rfl, put_same, ?_⟩
  have e5 : del (put O2 p (.dic (mergeDk [] kds))) p = del O2 p := by
    funext b
    unfold del put
    split
    · rfl
    · rfl
  rw [e5]; exact e4

/-! ### texts -/
theorem wm_s0 {id : String} {C : Str → Prop} {g : Str → V} {gd : Str → D} {x : Str} (ho : MtR X id (fun v xs H Q => ∃ a, v = .str a ∧ xs = [] ∧ C a ∧ Q (g a) H)) (hg : ∀ L, Is X.K L (g x) (gd x)) (hc : C x) (h : k (gd x) O) : WM X id (.str x) [] O k := fun vx vs L H ix is hr Q q => by
  cases is
  exact toM ho ⟨x, ix.str', rfl, hc, q _ _ _ _ _ h (.refl L) (hg L) hr⟩
theorem wm_lower {x : Str} (hz : x.length ≤ 5592405) (h : k (.str (Txt.lower x)) O) : WM X "str.lower" (.str x) [] O k := wm_s0 (gd := fun a => .str (Txt.lower a)) mt_lower (fun _ => .str _) hz h
theorem wm_upper {x : Str} (hz : x.length ≤ 5592405) (h : k (.str (Txt.upper x)) O) : WM X "str.upper" (.str x) [] O k := wm_s0 (gd := fun a => .str (Txt.upper a)) mt_upper (fun _ => .str _) hz h
theorem wm_rstripC {x y : Str} (hz : x.length ≤ sizeLine) (h : k (.str (Txt.rstripChars x y)) O) : WM X "str.rstrip" (.str x) [.str y] O k := fun vx vs L H ix is hr Q q => by
  obtain ⟨v, rfl, i⟩ := is.one'
  exact toM mt_rstripChars ⟨x, y, ix.str', by rw [i.str'], hz, q _ _ _ _ _ h (.refl L) (.str _) hr⟩
theorem wm_removeprefix {x y : Str} (hz : x.length ≤ sizeLine) (h : k (.str (Txt.removeprefix x y)) O) : WM X "str.removeprefix" (.str x) [.str y] O k := fun vx vs L H ix is hr Q q => by
  obtain ⟨v, rfl, i⟩ := is.one'
  exact toM mt_removeprefix ⟨x, y, ix.str', by rw [i.str'], hz, q _ _ _ _ _ h (.refl L) (.str _) hr⟩
theorem wm_startswith {x y : Str} (h : k (.bl (Txt.startswith x y)) O) : WM X "str.startswith" (.str x) [.str y] O k := fun vx vs L H ix is hr Q q => by
  obtain ⟨v, rfl, i⟩ := is.one'
  exact toM mt_startswith ⟨x, y, ix.str', by rw [i.str'], q _ _ _ _ _ h (.refl L) (.bl _) hr⟩
theorem wm_endswith {x y : Str} (h : k (.bl (Txt.endswith x y)) O) : WM X "str.endswith" (.str x) [.str y] O k := fun vx vs L H ix is hr Q q => by
  obtain ⟨v, rfl, i⟩ := is.one'
  exact toM mt_endswith ⟨x, y, ix.str', by rw [i.str'], q _ _ _ _ _ h (.refl L) (.bl _) hr⟩
theorem wm_split {x y : Str} (h0 : (y.length == 0) = false) (hz : x.length + 2 ≤ sizeLine) (h : k (.lst ((Txt.split x y).map .str)) O) : WM X "str.split" (.str x) [.str y] O k := fun vx vs L H ix is hr Q q => by
  obtain ⟨v, rfl, i⟩ := is.one'
  refine toM mt_split ⟨x, y, ix.str', by rw [i.str'], h0, hz, fun p hp => ?_⟩
  obtain ⟨L', le, z, r⟩ := hr.newL hp (is_strs (Txt.split x y))
  exact q _ _ _ _ _ h le z r
theorem wm_splitO {x y : Str} (h0 : (y.length == 0) = false) (hz : x.length + 2 ≤ sizeLine) (h : ∀ p, O p = none → k (.own p) (put O p (.lst ((Txt.split x y).map .str)))) : WM X "str.split" (.str x) [.str y] O k := fun vx vs L H ix is hr Q q => by
  obtain ⟨v, rfl, i⟩ := is.one'
  refine toM mt_split ⟨x, y, ix.str', by rw [i.str'], h0, hz, fun p hp => ?_⟩
  exact q _ _ _ _ _ (h p (hr.free hp).2.1) (.refl L) (.own p) (hr.newLO hp (is_strs (Txt.split x y)))
theorem wm_join {x : Str} {d : D} {ys : List Str} (hd : SqD O d (ys.map .str)) (hz : (ys.map (·.length)).sum + ys.length * x.length ≤ 16777216) (h : k (.str (Txt.join x ys)) O) : WM X "str.join" (.str x) [d] O k := fun vx vs L H ix is hr Q q => by
  obtain ⟨v, rfl, i⟩ := is.one'
  obtain ⟨p, us, rfl, s, t⟩ := sqD_of hr hd i
  obtain rfl := isL_str t
  exact toM mt_join ⟨x, p, ys, ix.str', rfl, .inl s, hz, q _ _ _ _ _ h (.refl L) (.str _) hr⟩
end
end DL
/-! DL, part H: the box of draws; facts handed to a body -/
namespace DL
open L2 PySem
open PySem.Spec PyProof.Rows

section
variable {X : Cx} {Γ : Sg} {O : Ow} {k : KD}
theorem we_boxL {es : List Expr} {pos : Pos} (h : WA X es Γ O fun ds O1 => ∃ g s c : Int, ds = [.int g, .int s, .int c] ∧ k .box O1) : WE X (.List es pos) Γ O k := fun σ L H hs hr Q q => by
  refine toE (pe_lst (pau es)) ?_
  refine h σ L H hs hr _ fun vs ds O1 L1 H1 h1 e1 i1 r1 => ?_
  obtain ⟨g, s, c, rfl, h1⟩ := h1
  have ev : vs = [.int g, .int s, .int c] := isL_int (bs := [g, s, c]) i1
  subst ev
  refine ⟨by show 3 ≤ sizeLine; decide, fun p hp => ?_⟩
  exact q _ _ _ _ _ h1 (e1.trans (Lg.le_bk (r1.free hp).2.2)) (.box Lg.bk_same) (r1.newBox hp g s c)
theorem wi_box {i : Int} (hi : 0 ≤ i ∧ i < 3) (h : ∀ g, k (.int g) O) : WI X .box (.int i) O k := fun vx vy L H ix iy hr Q q => by
  obtain ⟨a, rfl, hb⟩ := ix.box'
  obtain ⟨_, _, g, s, c, e⟩ := hr.bx a _ hb
  obtain ⟨j, rfl⟩ : ∃ j : Nat, i = (j : Int) := ⟨i.toNat, by omega⟩
  have hj : j = 0 ∨ j = 1 ∨ j = 2 := by omega
  obtain ⟨x, hx⟩ : ∃ x : Int, [V.int g, .int s, .int c][j]? = some (.int x) := by
    rcases hj with rfl | rfl | rfl
    · exact ⟨g, rfl⟩
    · exact ⟨s, rfl⟩
    · exact ⟨c, rfl⟩
  exact toI ix_list ⟨a, _, (j : Int), _, rfl, iy.int', .inl (.inl e), atI_nat hx, q _ _ _ _ _ (h x) (.refl L) (.int x) hr⟩
theorem wi_dict {d e : D} {kds : List (Key × D)} {y : Key} (hu : X.A.units + 1 < cLine) (hd : DcD O d kds) (he : valD kds y = some e) (h : k e O) : WI X d (kD y) O k := fun vx vy L H ix iy hr Q q => by
  obtain ⟨a, kvs, rfl, s1, s2, s3⟩ := dcD_of hr hd ix
  obtain ⟨v, g1, g2⟩ := (kv_val s2 s3 y).1 e he
  obtain rfl := kD_is iy
  have g : DGet H a (kV y) (some v) := .inl ⟨kvs, y, .inl s1, rfl, g1.symm⟩
  intro value slice pins s σ v' u I rx ry hs
  obtain rfl : v' = Value.ref a := rx
  exact tail_any (dict_typeIs I g) PySem.F.slot_dict_getitem.lookup (d_getItem hu I g ry fun w' s2 I2 r2 => ⟨v, H, I2, r2, q _ _ _ _ _ h (.refl L) g2 hr⟩) hs
theorem wi_dictS {d e : D} {kds : List (Key × D)} {x : Str} (hu : X.A.units + 1 < cLine) (hd : DcD O d kds) (he : valD kds (.inr x) = some e) (h : k e O) : WI X d (.str x) O k := wi_dict (y := .inr x) hu hd he h

/-! ### facts handed to a body -/
variable {st : List Stmt} {De : DE}
theorem with_va {x : Str} {i : Nat} (hv : Va X x i) (h : Va X x i → WSs X st Γ O De) : WSs X st Γ O De := h hv
theorem with_vs {x : Str} {i : Nat} (hv : Vs X x i) (h : Vs X x i → WSs X st Γ O De) : WSs X st Γ O De := h hv
theorem with_bn {x : Str} {id : String} (hv : Bn X x id) (h : Bn X x id → WSs X st Γ O De) : WSs X st Γ O De := h hv
theorem with_bt {x : Str} {T : String} (hv : Bt X x T) (h : Bt X x T → WSs X st Γ O De) : WSs X st Γ O De := h hv
theorem with_kn {x : Str} {j : Nat} {S : SpD} (hv : Kn X x j S) (h : Kn X x j S → WSs X st Γ O De) : WSs X st Γ O De := h hv
theorem with_kc {x : Str} {C : Addr} {j : Nat} {S : SpD} (hv : Kc X x C j S) (h : Kc X x C j S → WSs X st Γ O De) : WSs X st Γ O De := h hv
theorem with_km {m : Str} {C : Addr} {j : Nat} {S : SpD} (hv : Km X C m j S) (h : Km X C m j S → WSs X st Γ O De) : WSs X st Γ O De := h hv
theorem with_p {p : Prop} (hv : p) (h : p → WSs X st Γ O De) : WSs X st Γ O De := h hv
theorem wss_of {st' : List Stmt} (e : st' = st) (h : WSs X st Γ O De) : WSs X st' Γ O De := e ▸ h
theorem iteD {p : Prop} [Decidable p] {A B : Prop} (h1 : p → A) (h2 : ¬ p → B) : if decide p = true then A else B := by
  by_cases c : p
  · rw [decide_eq_true c]; exact iteT (h1 c)
  · rw [decide_eq_false c]; exact iteF (h2 c)
theorem iteND {p : Prop} [Decidable p] {A B : Prop} (h1 : p → B) (h2 : ¬ p → A) : if (!decide p) = true then A else B := by
  by_cases c : p
  · rw [decide_eq_true c]; exact iteF (h1 c)
  · rw [decide_eq_false c]; exact iteT (h2 c)
theorem iteBo {b : Bool} {A B : Prop} (h1 : b = true → A) (h2 : b = false → B) : if b = true then A else B := by
  cases b with
  | true => exact iteT (h1 rfl)
  | false => exact iteF (h2 rfl)
end
end DL
namespace DL
open L2 PySem
open PySem.Spec PyProof.Rows
section
variable {X : Cx} {Γ : Sg} {O : Ow} {k : KD} {tg : Expr}
/-- a loop over written data, turn by turn -/
def LoopD (X : Cx) (tg : Expr) (body : List Stmt) (De : DE) : List D → Sg → Ow → Prop
  | [], Γ, O => De.nx Γ O
  | d :: ds, Γ, O => WG X tg d Γ O fun Γ2 O2 => WSs X body Γ2 O2 { nx := LoopD X tg body De ds, rt := De.rt, bk := De.nx, ct := LoopD X tg body De ds }
theorem ws_forU {iter : Expr} {body : List Stmt} {pos : Pos} {De : DE} (hp : PassesOwn (model X.prog X.w) X.A X.env X.xe) (hc : X.calm = true) (hfs : ∀ x, foldedSetIterable iter X.env x = pure x)
    (h : ItD X tg iter Γ O fun ds O1 => LoopD X tg body De ds Γ O1) : WS X (.For tg iter body [] pos) Γ O De := by
  refine ws_for hp hc hfs ?_
  obtain ⟨wi, hpi, hit⟩ := h
  refine ⟨wi, hpi, fun σ L H hs hr RR q => hit σ L H hs hr RR fun J ds G Y O' L' H' a => q J ds G Y O' L' H' ⟨fun i Γ' O2 => LoopD X tg body De (ds.drop i) Γ' O2, ?_, fun i d Γ' O2 hd hl => ?_, fun Γ' O2 hl => ?_⟩⟩
  · exact a
  · have hlt : i < ds.length := (List.getElem?_eq_some_iff.mp hd).1
    have hl : LoopD X tg body De (List.drop i ds) Γ' O2 := hl
    rw [List.drop_eq_getElem_cons hlt] at hl
    have e : ds[i] = d := by
      rw [List.getElem?_eq_getElem hlt] at hd
      exact Option.some.inj hd
    rw [e] at hl
    exact hl
  · have hl : LoopD X tg body De (List.drop ds.length ds) Γ' O2 := hl
    rw [List.drop_length] at hl
    exact hl
theorem loop_cons {body : List Stmt} {De : DE} {d : D} {ds : List D} (h : WG X tg d Γ O fun Γ2 O2 => WSs X body Γ2 O2 { nx := LoopD X tg body De ds, rt := De.rt, bk := De.nx, ct := LoopD X tg body De ds }) : LoopD X tg body De (d :: ds) Γ O := h
theorem loop_nil {body : List Stmt} {De : DE} (h : De.nx Γ O) : LoopD X tg body De [] Γ O := h
theorem iteT' {c : Bool} {A B : Prop} (e : c = true) (h : A) : if c = true then A else B := by rw [e]; exact iteT h
theorem iteF' {c : Bool} {A B : Prop} (e : c = false) (h : B) : if c = true then A else B := by rw [e]; exact iteF h
/-- (a, b)[int(c)] -/
theorem wi_two {a b : D} {c : Bool} (h1 : c = true → k b O) (h2 : c = false → k a O) : WI X (.lst [a, b]) (.int (if c = true then 1 else 0)) O k := by
  cases c with
  | true => exact wi_list (.inl rfl) rfl (h1 rfl)
  | false => exact wi_list (.inl rfl) rfl (h2 rfl)
end
end DL
namespace DL
open L2 PySem
open PySem.Spec PyProof.Rows
section
variable {O : Ow} {ds : List D} {p : Addr} {kds : List (Key × D)} {C : Addr} {fds : List (Str × D)}
theorem sq_lst : SqD O (.lst ds) ds := .inl rfl
theorem sq_scr : SqD O (.scr ds) ds := .inr (.inl rfl)
theorem sq_own (h : O p = some (.lst ds)) : SqD O (.own p) ds := .inr (.inr ⟨p, rfl, h⟩)
theorem tq_lst : TqD O (.lst ds) ds := .inl rfl
theorem tq_own (h : O p = some (.lst ds)) : TqD O (.own p) ds := .inr ⟨p, rfl, h⟩
theorem dc_dic : DcD O (.dic kds) kds := .inl rfl
theorem dc_own (h : O p = some (.dic kds)) : DcD O (.own p) kds := .inr ⟨p, rfl, h⟩
theorem in_ins : InD O (.ins C fds) C fds := .inl rfl
theorem in_own (h : O p = some (.ins C fds)) : InD O (.own p) C fds := .inr ⟨p, rfl, h⟩
end
end DL
namespace DL
open L2 PySem
open PySem.Spec PyProof.Rows
theorem small_len {n : Nat} (h : Nat.ble n 1000 = true) : n ≤ sizeLine := Nat.le_trans (Nat.le_of_ble_eq_true h) (by decide)
section
variable {X : Cx} {O : Ow} {k : KD}
theorem wi_scrI {ns : List Int} {i : Int} (h0 : 0 ≤ i) (h1 : i < ns.length) (h : ∀ v, v ∈ ns → k (.int v) O) : WI X (.scr (ns.map .int)) (.int i) O k := by
  obtain ⟨j, rfl⟩ : ∃ j : Nat, i = (j : Int) := ⟨i.toNat, by omega⟩
  have hj : j < ns.length := by omega
  exact wi_list (e := .int ns[j]) sq_scr (atI_nat (by rw [List.getElem?_map, List.getElem?_eq_getElem hj]; rfl)) (h _ (List.getElem_mem hj))
/-- any item of a list -/
theorem wi_any {d : D} {ds : List D} {i : Int} (hd : SqD O d ds) (h0 : 0 ≤ i) (h1 : i < ds.length) (h : ∀ e, e ∈ ds → k e O) : WI X d (.int i) O k := by
  obtain ⟨j, rfl⟩ : ∃ j : Nat, i = (j : Int) := ⟨i.toNat, by omega⟩
  have hj : j < ds.length := by omega
  exact wi_list (e := ds[j]) hd (atI_nat (List.getElem?_eq_getElem hj)) (h _ (List.getElem_mem hj))
theorem wi_anyS {z : Str} {i : Int} (hz : z.length ≤ sizeLine) (h0 : 0 ≤ i) (h1 : i < z.cps.toList.length) (h : ∀ c, c ∈ z.cps.toList → k (.str ⟨#[c]⟩) O) : WI X (.str z) (.int i) O k := by
  obtain ⟨j, rfl⟩ : ∃ j : Nat, i = (j : Int) := ⟨i.toNat, by omega⟩
  have hj : j < z.cps.toList.length := by omega
  exact wi_str (c := z.cps.toList[j]) hz (atI_nat (List.getElem?_eq_getElem hj)) (h _ (List.getElem_mem hj))
end
end DL
namespace DL
open L2 PySem
open PySem.Spec PyProof.Rows
def uSet (X : Cx) : TSet := fun o i v H q => ∀ pins s σ ov iv u, Inv X pins σ H s → RelV o ov → RelV i iv → RelV v u → wpAny (model X.prog X.w) X.A (setItem ov iv u) (fun _ s' => ∃ H', Inv X pins σ H' s' ∧ q H') X.xe s
theorem setu {X : Cx} : PSet X (uSet X) := fun pins s σ H o i v ov iv u Q I ro ri rv h => h pins s σ ov iv u I ro ri rv
theorem toSet {X : Cx} {t : TSet} (h : PSet X t) {o i v : V} {H : Hp} {q : Hp → Prop} (z : t o i v H q) : uSet X o i v H q := fun pins s σ ov iv u I ro ri rv => h pins s σ H o i v ov iv u q I ro ri rv z
def WSet (X : Cx) (x y d : D) (O : Ow) (ko : Ow → Prop) : Prop := ∀ vx vy vd L H, Is X.K L vx x → Is X.K L vy y → Is X.K L vd d → R X.K L O H → ∀ q : Hp → Prop, (∀ O' L' H', ko O' → L.le L' → R X.K L' O' H' → q H') → uSet X vx vy vd H q
section
variable {X : Cx} {Γ : Sg} {O : Ow} {k : KD}
theorem wg_sub {o i : Expr} {d : D} {pos : Pos} {kn : Sg → Ow → Prop} (ha : ∀ v, assign (.Subscript o i pos) X.env v = (do
      let o1 ← holding [v] (eval o X.env)
      let i1 ← holding [v, o1] (eval i X.env)
      standAt pos
      holding [v, o1, i1] (setItem o1 i1 v)
      release [v, o1, i1] [])) (h : WE X o Γ O fun x O1 => WE X i Γ O1 fun y O2 => WSet X x y d O2 (kn Γ)) : WG X (.Subscript o i pos) d Γ O kn := fun v σ L H iv hs hr q hq => by
  refine toG (pg_sub (pu o) (pu i) setu ha) ?_
  refine h σ L H hs hr _ fun x dx O1 L1 H1 h1 e1 i1 r1 => ?_
  refine h1 σ L1 H1 (hs.mono e1) r1 _ fun y dy O2 L2 H2 h2 e2 i2 r2 => ?_
  exact h2 x y v L2 H2 (i1.mono e2) i2 (iv.mono (e1.trans e2)) r2 _ fun O' L' H' a le r => hq _ _ _ _ _ a ((e1.trans e2).trans le) (hs.mono ((e1.trans e2).trans le)) r
theorem wset_box {n i : Int} {ko : Ow → Prop} (hj : 0 ≤ i ∧ i < 3) (h : ko O) : WSet X .box (.int i) (.int n) O ko := fun vx vy vd L H ix iy iv hr q hq => by
  obtain ⟨a, rfl, hb⟩ := ix.box'
  obtain ⟨_, _, g, s, c, e⟩ := hr.bx a _ hb
  obtain rfl := iv.int'
  obtain ⟨j, rfl⟩ : ∃ j : Nat, i = (j : Int) := ⟨i.toNat, by omega⟩
  have hix : ixN 3 (j : Int) = some j := by
    unfold ixN
    rw [if_pos (by omega),
        if_pos (by omega)]
    simp
  have hj' : j = 0 ∨ j = 1 ∨ j = 2 := by omega
  obtain ⟨g', s', c', hz⟩ : ∃ g' s' c' : Int, [V.int g, .int s, .int c].set j (.int n) = [.int g', .int s', .int c'] := by
    rcases hj' with rfl | rfl | rfl
    · exact ⟨n, s, c, rfl⟩
    · exact ⟨g, n, c, rfl⟩
    · exact ⟨g, s, n, rfl⟩
  refine toSet set_list ⟨a, _, (j : Int), j, rfl, iy.int', e, hix, ?_⟩
  rw [hz]
  exact hq _ _ _ h (.refl L) (hr.turn hb g' s' c')
theorem wset_list {p : Addr} {ds : List D} {n : Int} {j : Nat} {d : D} {ko : Ow → Prop} (ho : O p = some (.lst ds)) (hj : ixN ds.length n = some j) (h : ko (put O p (.lst (ds.set j d)))) : WSet X (.own p) (.int n) d O ko := fun vx vy vd L H ix iy iv hr q hq => by
  obtain ⟨xs, g1, g2⟩ := own_lst hr ho
  refine toSet set_list ⟨p, xs, n, j, ix.own', iy.int', g1, by rw [g2.length]; exact hj, ?_⟩
  exact hq _ _ _ h (.refl L) (hr.change ho ⟨_, upd_same, g2.set iv j⟩)
theorem wset_dict {p : Addr} {kds : List (Key × D)} {y : Key} {d : D} {ko : Ow → Prop} (hu : X.A.units + 1 < cLine) (ho : O p = some (.dic kds)) (hz : kds.length < sizeLine) (h : ko (put O p (.dic (putDk kds y d)))) : WSet X (.own p) (kD y) d O ko := fun vx vy vd L H ix iy iv hr q hq => by
  obtain ⟨kvs, g1, g2, g3⟩ := own_dic hr ho
  obtain ⟨p1, p2⟩ := putK_is iv y g2 g3
  have hl : kvs.length < sizeLine := by rw [← List.length_map (f := (·.1)), g2, List.length_map]; exact hz
  obtain rfl := ix.own'
  obtain rfl := kD_is iy
  intro pins s σ ov iv' u I ro ri rv
  obtain rfl : ov = Value.ref p := ro
  exact d_setItem (H' := upd H p (.dK (putK kvs y vd))) hu I (.inl ⟨kvs, y, g1, rfl, hl, rfl⟩) ri rv fun s' I' => ⟨_, I', hq _ _ _ h (.refl L) (hr.change ho ⟨_, upd_same, p1, p2⟩)⟩
theorem wset_dictS {p : Addr} {kds : List (Key × D)} {y : Str} {d : D} {ko : Ow → Prop} (hu : X.A.units + 1 < cLine) (ho : O p = some (.dic kds)) (hz : kds.length < sizeLine) (h : ko (put O p (.dic (putDk kds (.inr y) d)))) : WSet X (.own p) (.str y) d O ko := wset_dict (y := .inr y) hu ho hz h
theorem wps_cons {a b : Expr} {ks : List (Option Expr)} {vs : List Expr} {kp : List (D × D) → Ow → Prop} (h : WE X a Γ O fun x O1 => WE X b Γ O1 fun y O2 => WPs X ks vs Γ O2 fun r O3 => kp ((x, y) :: r) O3) : WPs X (some a :: ks) (b :: vs) Γ O kp := h
theorem wps_nil {kp : List (D × D) → Ow → Prop} (h : kp [] O) : WPs X [] [] Γ O kp := h
theorem small_lt {n : Nat} (h : Nat.ble n 1000 = true) : n < sizeLine := Nat.lt_of_le_of_lt (Nat.le_of_ble_eq_true h) (by decide)
end
end DL
/-! DL, part I: fields by their rule, ranges as lists -/
namespace DL
open L2 PySem
open PySem.Spec PyProof.Rows
section
variable {X : Cx} {Γ : Sg} {O : Ow} {k : KD} {De : DE}
theorem small_lt' {n : Nat} (h : Nat.ble n 999 = true) : n < 1000 := Nat.lt_of_le_of_lt (Nat.le_of_ble_eq_true h) (by decide)
theorem fld_own {p C : Addr} {fds : List (Str × D)} {f : Str} {d : D} (ho : O p = some (.ins C fds)) (hc : Cls X.K C) (hn : NoAttr X.K C f) (hz : fds.length < 1000) (h : De.nx Γ (put O p (.ins C (putFd f d fds)))) : ∃ p' C' fds', D.own p = .own p' ∧ O p' = some (.ins C' fds') ∧ Cls X.K C' ∧ NoAttr X.K C' f ∧ fds'.length < 1000 ∧ De.nx Γ (put O p' (.ins C' (putFd f d fds'))) :=
  ⟨p, C, fds, rfl, ho, hc, hn, hz, h⟩
theorem fld_get {O : Ow} {K : PySem.W.Frag} {C : Addr} {fds : List (Str × D)} {f : Str} {x d : D} (hi : InD O x C fds) (hc : Cls K C) (hn : NoAttr K C f) (hl : fds.lookup f = some d) {φ : D → Prop} (h : φ d) : ∃ C' fds' d', InD O x C' fds' ∧ Cls K C' ∧ NoAttr K C' f ∧ fds'.lookup f = some d' ∧ φ d' :=
  ⟨C, fds, d, hi, hc, hn, hl, h⟩
theorem mth_get {C : Addr} {fds : List (Str × D)} {m : Str} {x : D} {p : Prop} (hi : InD O x C fds) (hl : fds.lookup m = none) (h : p) : ∃ fds', InD O x C fds' ∧ fds'.lookup m = none ∧ p := ⟨fds, hi, hl, h⟩
theorem we_ty {x : Str} {T : String} {pos : Pos} (b : Bt X x T) (h : k (.ty T) O) : WE X (.Name x pos) Γ O k := we_bltn b.hg b.hm b.hv (v := .ty T) rfl b.hn b.hd (fun _ => .ty T) h
/-- a name of the module that stands for written data -/
structure Gd (X : Cx) (x : Str) (d : D) : Prop where
  ex : ∃ u, Gn X x u ∧ ∃ v, RelV v u ∧ ∀ L, Is X.K L v d
theorem we_gd {x : Str} {d : D} {pos : Pos} (g : Gd X x d) (h : k d O) : WE X (.Name x pos) Γ O k := by
  obtain ⟨u, g1, g2⟩ := g.ex
  exact we_glob g1 g2 h
structure GlD (K : PySem.W.Frag) (mg : Str → Option Value) (x : Str) (d : D) : Prop where
  ex : ∃ u, mg x = some u ∧ ∃ v, RelV v u ∧ ∀ L, Is K L v d
theorem GlD.gd {K : PySem.W.Frag} {mg : Str → Option Value} {x : Str} {d : D} (g : GlD K mg x d) {X : Cx} (e3 : X.K = K) (e4 : X.mg = mg) (gl : Gl X x) (db : (x == ("__debug__" : Str)) = false) : Gd X x d := by
  subst e3 e4
  obtain ⟨u, g1, g2⟩ := g.ex
  exact ⟨u, ⟨gl, g1, db⟩, g2⟩
theorem loop_consN {tg : Expr} {body : List Stmt} {d : D} {ds : List D} {Γ' : Sg} (e : Γ = Γ') (h : WG X tg d Γ' O fun Γ2 O2 => WSs X body Γ2 O2 { nx := LoopD X tg body De ds, rt := De.rt, bk := De.nx, ct := LoopD X tg body De ds }) : LoopD X tg body De (d :: ds) Γ O := by
  subst e
  exact h
theorem wss_slots {st : List Stmt} {Γ' : Sg} (e : Γ = Γ') (h : WSs X st Γ' O De) : WSs X st Γ O De := by
  subst e
  exact h
theorem wo_band1 {i : Int} (h : k (.int (i % 2)) O) : WO X (binaryOp .BitAnd) (.int i) (.int 1) O k := wo_band (by rw [bitAnd_m1]; exact h)
theorem bl_eq {b c : Bool} (e : b = c) (h : k (.bl c) O) : k (.bl b) O := e ▸ h
theorem int_eq {b c : Int} (e : b = c) (h : k (.int c) O) : k (.int b) O := e ▸ h
theorem ws_parR {x y : Str} {i j : Nat} {a b : Expr} {px py pt kt k2 pt2 pos} (hc : X.calm = true) (vx : Vs X x i) (vy : Vs X y j) (hij : i ≠ j) (hx : X.env.scope.names.lookup x = some .local) (hy : X.env.scope.names.lookup y = some .local)
    (hw : swappedStores [.Tuple [.Name x px, .Name y py] kt pt] (.Tuple [a, b] k2 pt2) X.env = pure (some [x, y])) (hs : swapsWithSole [.Tuple [.Name x px, .Name y py] kt pt] (.Tuple [a, b] k2 pt2) pos.line X.env = pure false)
    (h : WA X [a, b] Γ O fun ds O1 => ∃ d e, ds = [d, e] ∧ De.nx ((Γ.set i (some d)).set j (some e)) O1) : WS X (.Assign [.Tuple [.Name x px, .Name y py] kt pt] (.Tuple [a, b] k2 pt2) pos) Γ O De := ws_par hc vx.nd vx.hN vy.hN hij hx hy (fun ha => ps_par hc vx.nd vx.hN vy.hN hij hx hy ha hw hs) h
theorem par_i {d e : D} {φ : D → D → Prop} (h : φ d e) : ∃ d' e', [d, e] = [d', e'] ∧ φ d' e' := ⟨d, e, rfl, h⟩
/-- one of two, by a number below two -/
theorem wi_pair {a b : D} {r : Int} (h0 : 0 ≤ r ∧ r < 2) (h1 : r = 0 → k a O) (h2 : r = 1 → k b O) : WI X (.lst [a, b]) (.int r) O k := by
  rcases (show r = 0 ∨ r = 1 by omega) with e | e
  · subst e; exact wi_list (e := a) sq_lst (atI_nat (xs := [a, b]) (j := 0) rfl) (h1 rfl)
  · subst e; exact wi_list (e := b) sq_lst (atI_nat (xs := [a, b]) (j := 1) rfl) (h2 rfl)
/-- repr of a whole number -/
theorem wc_reprI {n : Int} (hs : n.natAbs < 10 ^ 30) (h : k (.str (toString n)) O) : WC X (.builtin "repr") [.int n] O k := fun vs L H is hr Q q => by
  obtain ⟨v, rfl, i⟩ := is.one'
  obtain rfl := i.int'
  have fin : Q (.str (toString n)) H := q _ _ _ _ _ h (.refl L) (.str _) hr
  have hb : n.natAbs.log2 < 1920 := by
    by_cases c : n.natAbs = 0
    · rw [c]; decide
    · exact (Nat.log2_lt c).2 (Nat.lt_of_lt_of_le hs (by decide))
  intro pins s σ us I rx
  obtain ⟨u, rfl, r1⟩ := Vals.one rx
  obtain ⟨t, rfl⟩ := r1
  exact P.repr_of_int (by first | exact hb | exact decide_eq_true hb) ⟨.str (toString n), H, I.tok _, ⟨_, rfl⟩, fin⟩
/-- list(range(a, b)) -/
def rgD (i j : Int) : List D := (List.range (j - i).toNat).map fun n => .int (i + (n : Nat))
theorem we_listRange {a b : Expr} {p p2 pos pos2 : Pos} (hc : X.calm = true) (hg : Gl X "list") (hm : X.mg "list" = none) (hg2 : Gl X "range") (hm2 : X.mg "range" = none)
    (na : starEach [.Call (.Name "range" p2) [a, b] [] pos2] X.env = (false, eval (.Call (.Name "range" p2) [a, b] [] pos2) X.env) :: starEach [] X.env) (nb : starEach [a, b] X.env = (false, eval a X.env) :: starEach [b] X.env) (nc : starEach [b] X.env = (false, eval b X.env) :: starEach [] X.env) (hp : (backTo pos2 (starEach [b] X.env)).any (·.1) = false)
    (h : WE X a Γ O fun x O1 => WE X b Γ O1 fun y O2 => ∃ i j, x = .int i ∧ y = .int j ∧ RgOk i j ∧ k (.lst (rgD i j)) O2) : WE X (.Call (.Name "list" p) [.Call (.Name "range" p2) [a, b] [] pos2] [] pos) Γ O k := fun σ L H hs hr Q q => by
  refine toE (pe_listRg hc hg hm (prg_2 hg2 hm2 (pu a) (pu b) nb nc hp) na) ?_
  refine h σ L H hs hr _ fun x dx O1 L1 H1 h1 e1 i1 r1 => ?_
  refine h1 σ L1 H1 (hs.mono e1) r1 _ fun y dy O2 L2 H2 h2 e2 i2 r2 => ?_
  obtain ⟨i, j, rfl, rfl, ok, h2⟩ := h2
  refine ⟨i, j, (i1.mono e2).int', i2.int', ok, fun l hl => ?_⟩
  have ev : IsL X.K L2 (rgV i j) (rgD i j) := by
    unfold rgV rgD
    generalize List.range (j - i).toNat = z
    induction z with
    | nil => exact .nil
    | cons n z ih => exact .cons (.int _) ih
  obtain ⟨L', le, z, r⟩ := r2.newL hl ev
  exact q _ _ _ _ _ h2 ((e1.trans e2).trans le) z r
end
end DL
namespace DL
open L2 PySem
open PySem.Spec PyProof.Rows
/-- what a written value stands for -/
def Wr (K : PySem.W.Frag) (u : Value) (d : D) : Prop := ∃ v, RelV v u ∧ ∀ L, Is K L v d
inductive WrL (K : PySem.W.Frag) : List Value → List D → Prop
  | nil : WrL K [] []
  | cons {u : Value} {d : D} {us : List Value} {ds : List D} : Wr K u d → WrL K us ds → WrL K (u :: us) (d :: ds)
section
variable {K : PySem.W.Frag}
theorem wr_str {x : Str} {t : Tok} : Wr K (.str x t) (.str x) := ⟨.str x, ⟨t, rfl⟩, fun _ => .str x⟩
theorem wr_int {n : Int} {t : Tok} : Wr K (.int n t) (.int n) := ⟨.int n, ⟨t, rfl⟩, fun _ => .int n⟩
theorem wr_bl {b : Bool} : Wr K (.bool b) (.bl b) := ⟨.bl b, rfl, fun _ => .bl b⟩
theorem wr_non : Wr K .none .non := ⟨.non, rfl, fun _ => .non⟩
theorem wrL_all {us : List Value} {ds : List D} (h : WrL K us ds) : ∃ vs, Vals vs us ∧ ∀ L, IsL K L vs ds := by
  induction h with
  | nil => exact ⟨[], .nil, fun _ => .nil⟩
  | cons a _ ih =>
    obtain ⟨v, r, i⟩ := a
    obtain ⟨vs, rs, is⟩ := ih
    exact ⟨v :: vs, .cons r rs, fun L => .cons (i L) (is L)⟩
theorem wr_tup {a : Addr} {od : Option Addr} {its : Array Value} {n : Nat} {sl : Array (Option Value)} {us : List Value} {ds : List D} (l : K.lookup a = some ⟨.type "tuple", od, .seq its n, sl⟩) (e : its.toList = us) (z : Nat.ble us.length 1000 = true) (h : WrL K us ds) : Wr K (.ref a) (.tup ds) := by
  subst e
  obtain ⟨vs, r, i⟩ := wrL_all h
  have hz : its.size ≤ sizeLine := by rw [← Array.length_toList]; exact small_len z
  exact ⟨.ref a, rfl, fun L => .tup (.inr ⟨_, its, n, l, rfl, rfl, hz, r⟩) (i L)⟩
theorem gl_mk {h : Heap} {mg : Str → Option Value} {x : Str} {u : Value} {d : D} (X : K.In h) (G : h.Ns mainGlobals mg) (a : PySem.W.nsIn K mainGlobals x = some (some u)) (w : Wr K u d) : GlD K mg x d := ⟨u, PySem.W.mg_of X G a, w⟩
end
end DL
namespace DL
open L2 PySem
open PySem.Spec PyProof.Rows
section
variable {base : Heap} {mg : Str → Option Value} {K : PySem.W.Frag} {w : World} {P : Program}
/-- what is looked up of a def behind the top -/
inductive Dn (K : PySem.W.Frag) (x : Str) (st : Stmt) : Prop where
  | mk {f : Addr} {oc : Value} {od an : Option Addr} {osl : Array (Option Value)} {kV doc pm cdv ct : Value} (a : PySem.W.nsIn K mainGlobals x = some (some (.ref f))) (l : K.lookup f = some ⟨oc, od, .func (PySem.W.fnOf x x (defArgs st) (defBody st) (defScope st) .none kV doc pm an cdv ct), osl⟩) (c : PySem.W.codeIn K cdv x = true) (k : PySem.W.keepIn K (.ref f) = true) : Dn K x st
theorem Dn.df {h : Heap} {x : Str} {st : Stmt} {ps : List Str} (D : Dn K x st) (X : K.In h) (G : h.Ns mainGlobals mg) (b : ∀ (kV doc pm : Value) (an : Option Addr) (cdv ct : Value) (us : List Value), us.length = ps.length → bindArgs (PySem.W.fnOf x x (defArgs st) (defBody st) (defScope st) .none kV doc pm an cdv ct) ⟨us, []⟩ = pure (ps.zip us)) : Df K mg x st ps := by
  cases D with
  | mk a l c k => exact df_mk X G a l c k b
/-- .. of a method of the class at C -/
inductive Dnm (K : PySem.W.Frag) (C : Addr) (m qual : Str) (st : Stmt) : Prop where
  | mk {f : Addr} {oc : Value} {od an : Option Addr} {osl : Array (Option Value)} {kV doc pm cdv ct : Value} (a : PySem.W.findIn K (.ref C) m = some (some (.ref f))) (i : PySem.W.isFn K (.ref f) = true) (l : K.lookup f = some ⟨oc, od, .func (PySem.W.fnOf m qual (defArgs st) (defBody st) (defScope st) .none kV doc pm an cdv ct), osl⟩) (c : PySem.W.codeIn K cdv qual = true) (k : PySem.W.keepIn K (.ref f) = true) : Dnm K C m qual st
theorem Dnm.dm {C : Addr} {m qual : Str} {st : Stmt} {ps : List Str} (D : Dnm K C m qual st) (b : ∀ (kV doc pm : Value) (an : Option Addr) (cdv ct : Value) (us : List Value), us.length = ps.length → bindArgs (PySem.W.fnOf m qual (defArgs st) (defBody st) (defScope st) .none kV doc pm an cdv ct) ⟨us, []⟩ = pure (ps.zip us)) : Dm K C m qual st ps := by
  cases D with
  | mk a i l c k => exact dm_mk a i l c k b
/-- .. of an __init__ with z defaults -/
inductive Dni (K : PySem.W.Frag) (C : Addr) (qual : Str) (st : Stmt) (z : Nat) : Prop where
  | mk {f : Addr} {oc : Value} {od an : Option Addr} {osl : Array (Option Value)} {kV doc pm cdv ct : Value} {T : Addr} {ot : Value} {dt : Option Addr} {its : Array Value} {n : Nat} {stt : Array (Option Value)} (m : PySem.W.makesIn K C = true) (a : PySem.W.findIn K (.ref C) "__init__" = some (some (.ref f))) (i : PySem.W.isFn K (.ref f) = true) (kc : PySem.W.keepIn K (.ref C) = true) (l : K.lookup f = some ⟨oc, od, .func (PySem.W.fnOf "__init__" qual (defArgs st) (defBody st) (defScope st) (.ref T) kV doc pm an cdv ct), osl⟩) (c : PySem.W.codeIn K cdv qual = true)
      (lT : K.lookup T = some ⟨ot, dt, .seq its n, stt⟩) (hz : its.size = z) : Dni K C qual st z
theorem Dni.di {C : Addr} {qual : Str} {st : Stmt} {ps : List Str} {z : Nat} (D : Dni K C qual st z)
    (b : ∀ (T : Addr) (its : Array Value) (kV doc pm : Value) (an : Option Addr) (cdv ct : Value) (us : List Value), its.size = z → us.length = ps.length → ∃ k, bindArgs (PySem.W.fnOf "__init__" qual (defArgs st) (defBody st) (defScope st) (.ref T) kV doc pm an cdv ct) ⟨us, []⟩ = seqItems? (.ref T) >>= k ∧ k (some its) = pure (ps.zip us)) : Di K C qual st ps := by
  cases D with
  | mk m a i kc l c lT hz => exact di_mkD m a i kc l c lT z hz (b _)
/-- the law's own def, whichever heap it starts from -/
def Pl (P : Program) (w : World) (K : PySem.W.Frag) (mg : Str → Option Value) (base : Heap) (x : Str) (st : Stmt) (ps : List Str) (j : Nat) (S : SpD) : Prop := ∀ (f : Addr) (fd : FuncData), FunX K x x st f fd → FnG P w K mg base CX0 j f fd ps (spOf K S)
theorem Pl.of {x : Str} {st : Stmt} {N ps : List Str} {j : Nat} {S : SpD} (Sc : FnScope N ps (defScope st)) (len : ∀ ds O k kx, S ds O k kx → ds.length = ps.length)
    (h : ∀ (f : Addr) (cdv : Value) (A : Around) (outer : List Env) (s : Shared) (H : Hp) (E : XK), A.guards = some [] → Room j (A.deeper (envOfC x (defScope st) s.heap.objs.size f cdv)) → ∀ ds O k kx, S ds O k kx →
      WSs (Bo P w K mg base N x st f cdv A outer s H E) (defBody st) (gst N.length ds) O { nx := fun _ O' => Ret k .non O', rt := Ret k }) : Pl P w K mg base x st ps (j + 1) S := fun f fd F => fn_body F Sc len (h f)
theorem law_end {h : Heap} {x p : Str} {st : Stmt} {j : Nat} {S : SpD} {fa : Addr} (X : K.In h) (G : h.Ns mainGlobals mg) (hfa : mg x = some (.ref fa)) (D : Dn K x st)
    (b : ∀ (kV doc pm : Value) (an : Option Addr) (cdv ct u : Value), bindArgs (PySem.W.fnOf x x (defArgs st) (defBody st) (defScope st) .none kV doc pm an cdv ct) ⟨[u], []⟩ = pure [(p, u)])
    (F : ∀ base : Heap, K.In base → base.Ns mainGlobals mg → Pl P w K mg base x st [p] j S) :
    ∃ fd : FuncData, (∀ (s : Shared) (u : Value), BindsTo s fd ⟨[u], []⟩ [(p, u)]) ∧ ∀ base : Heap, K.In base → base.Ns mainGlobals mg → FnG P w K mg base CX0 j fa fd [p] (spOf K S) := by
  cases D with
  | mk a l c k =>
    have e := hfa.symm.trans (PySem.W.mg_of X G a)
    cases e
    exact ⟨_, fun s u => .of_eq (b _ _ _ _ _ _ u), fun base i n => F base i n _ _ (funx_mk l c)⟩
end
end DL
/-! DL, part J: while, bools by is, texts repeated, repr of small texts -/
namespace DL
open L2 PySem
open PySem.Spec PyProof.Rows
section
variable {X : Cx} {Γ : Sg} {O : Ow} {k : KD} {De : DE}
theorem ws_while {c : Expr} {body : List Stmt} {pos : Pos} (hp : PassesOwn (model X.prog X.w) X.A X.env X.xe)
    (h : ∃ I : Nat → Sg → Ow → Prop, (∃ m, I m Γ O) ∧ ∀ m Γ' O', I m Γ' O' → WT X c Γ' O' fun b O1 => if b = true then WSs X body Γ' O1 { nx := fun Γ2 O2 => ∃ m', m' < m ∧ I m' Γ2 O2, rt := De.rt, bk := De.nx, ct := fun Γ2 O2 => ∃ m', m' < m ∧ I m' Γ2 O2 } else De.nx Γ' O1) : WS X (.While c body [] pos) Γ O De := fun σ L H hs hr E q => by
  obtain ⟨I, ⟨m0, i0⟩, step⟩ := h
  refine toS (ps_while hp (ptu c) (pssu body)) ?_
  refine ⟨fun m σ' H' => ∃ Γ' O' L', I m Γ' O' ∧ L.le L' ∧ Sl X.K L' σ' Γ' ∧ R X.K L' O' H', ⟨m0, Γ, O, L, i0, .refl L, hs, hr⟩, ?_⟩
  rintro m σ1 H1 ⟨Γ1, O1, L1, i1, le, s1, r1⟩
  refine step m Γ1 O1 i1 σ1 L1 H1 s1 r1 _ fun t O2 L2 H2 h2 e2 r2 => ?_
  cases t with
  | true =>
    refine iteT ⟨fun σ' H' => ∃ m', m' < m ∧ ∃ Γ' O' L', I m' Γ' O' ∧ L.le L' ∧ Sl X.K L' σ' Γ' ∧ R X.K L' O' H', fun σ' H' z => z, ?_⟩
    have h2' := h2
    rw [if_pos rfl] at h2'
    refine h2' σ1 L2 H2 (s1.mono e2) r2 _ ⟨?_, ?_, ?_, ?_⟩
    · rintro Γ5 O5 σ5 L5 H5 ⟨m', lt, a5⟩ e5 s5 r5
      exact ⟨m', lt, Γ5, O5, L5, a5, (le.trans e2).trans e5, s5, r5⟩
    · exact q.rt.le (le.trans e2)
    · exact fun Γ5 O5 σ5 L5 H5 a5 e5 s5 r5 => q.nx _ _ _ _ _ a5 ((le.trans e2).trans e5) s5 r5
    · rintro Γ5 O5 σ5 L5 H5 ⟨m', lt, a5⟩ e5 s5 r5
      exact ⟨m', lt, Γ5, O5, L5, a5, (le.trans e2).trans e5, s5, r5⟩
  | false =>
    refine iteF ?_
    have h2' := h2
    rw [if_neg (by decide)] at h2'
    exact q.nx _ _ _ _ _ h2' (le.trans e2) (s1.mono e2) r2
variable {a b : Bool}
theorem wo_is_bb (h : k (.bl (decide (a = b))) O) : WO X (compareOp .Is) (.bl a) (.bl b) O k := fun vx vy L H ix iy hr Q q => toO op_is_bl ⟨a, b, ix.bl', iy.bl', q _ _ _ _ _ h (.refl L) (.bl _) hr⟩
theorem wo_not_bb (h : k (.bl (!decide (a = b))) O) : WO X (compareOp .IsNot) (.bl a) (.bl b) O k := fun vx vy L H ix iy hr Q q => toO op_isnot_bl ⟨a, b, ix.bl', iy.bl', q _ _ _ _ _ h (.refl L) (.bl _) hr⟩
theorem tym_str {z : Str} {p : Prop} (h : p) : TyM O (.str z) "str" ∧ p := ⟨rfl, h⟩
theorem len_ok {z : Str} (h : z.length ≤ 1000) : z.length ≤ 5592405 := Nat.le_trans h (by decide)
theorem len_okz {z : Str} (h : z.length ≤ 1000) : z.length ≤ sizeLine := Nat.le_trans h (by decide)
/-- a text some times -/
def timesS (x : Str) (n : Nat) : Str := ⟨(List.replicate n x.cps).foldl (· ++ ·) #[]⟩
theorem times_size {c : Array Nat} : ∀ (n : Nat) (acc : Array Nat), ((List.replicate n c).foldl (· ++ ·) acc).size = acc.size + n * c.size
  | 0, acc => by simp
  | n + 1, acc => by
    rw [List.replicate_succ, List.foldl_cons, times_size n, Array.size_append, Nat.succ_mul]
    omega
theorem wo_mulS {x : Str} {n : Nat} (hn : n ≤ 1000) (h0 : 0 < x.length) (hx : x.length ≤ 1000) (h : k (.str (timesS x n)) O) : WO X (binaryOp .Mult) (.str x) (.int (n : Int)) O k := fun vx vy L H ix iy hr Q q => by
  obtain rfl := ix.str'
  obtain rfl := iy.int'
  have fin : Q (.str (timesS x n)) H := q _ _ _ _ _ h (.refl L) (.str _) hr
  intro pins s σ u1 u2 I r1 r2
  obtain ⟨t, rfl⟩ := r1
  obtain ⟨u, rfl⟩ := r2
  have hm : x.length * n ≤ 1000 * 1000 := Nat.mul_le_mul hx hn
  refine P.mul_str ?_ ?_ ?_ ?_
  · have h2 : ¬ (n : Int) ≥ 2 ^ 63 := by omega
    have h3 : ¬ (n : Int) < -(2 ^ 63 : Int) := by omega
    rw [decide_eq_false h3, decide_eq_false h2]; rfl
  · intro h1 _ h3
    have h5 : (2 ^ 63 - 1) / (n : Int) < 1000 := by omega
    have h6 := (Int.ediv_lt_iff_lt_mul (by omega : (0 : Int) < n)).mp h5
    omega
  · intro _ _
    rw [Int.toNat_natCast]
    unfold Builtin.Str.tooLong
    have : ¬ x.length * n > sizeLine := by rw [sizeLine_eq]; omega
    exact decide_eq_false this
  · by_cases h1 : (n : Int) < 1
    · obtain rfl : n = 0 := by omega
      rw [if_pos h1]
      exact ⟨Nat.zero_le _, .str Str.empty, H, I.tok _, ⟨_, rfl⟩, fin⟩
    rw [if_neg h1]
    by_cases h2 : n = 1
    · subst h2
      rw [if_pos (by simp)]
      refine ⟨.str x, H, I, ⟨_, rfl⟩, ?_⟩
      have e : timesS x 1 = x := by
        show (⟨#[] ++ x.cps⟩ : Str) = x
        rw [Array.empty_append]
      rw [e] at fin
      exact fin
    · have h3 : ¬ ((n : Int) == 1 || x.length == 0) = true := by
        simp only [Bool.or_eq_true, beq_iff_eq]
        omega
      rw [if_neg h3, Int.toNat_natCast]
      refine ⟨?_, .str (timesS x n), H, I.tok _, ⟨_, rfl⟩, fin⟩
      show (timesS x n).cps.size ≤ _
      unfold timesS
      rw [times_size, sizeLine_eq]
      have e : x.cps.size = x.length := rfl
      rw [e, Nat.mul_comm]
      show 0 + _ ≤ _
      omega
end
end DL
/-! DL, part K: texts as lists of code points -/
namespace DL
open L2 PySem
open PySem.Spec PyProof.Rows
def b32 (c : Nat) : Bool := decide (c = 32)
/-- without the blanks at its end -/
def rs (l : List Nat) : List Nat := (l.reverse.dropWhile b32).reverse
theorem str_ext {x y : Str} (h : x.cps.toList = y.cps.toList) : x = y := by
  cases x; cases y
  congr
  exact Array.toList_inj.mp h
theorem take_len {p : Nat → Bool} : ∀ l : List Nat, l.drop (l.takeWhile p).length = l.dropWhile p
  | [] => rfl
  | a :: l => by
    by_cases h : p a = true
    · rw [List.takeWhile_cons_of_pos h, List.dropWhile_cons_of_pos h, List.length_cons, List.drop_succ_cons, take_len l]
    · rw [List.takeWhile_cons_of_neg h, List.dropWhile_cons_of_neg h]
      rfl
theorem rs_take (l : List Nat) : l.take (l.length - (l.reverse.takeWhile b32).length) = rs l := by
  unfold rs
  rw [← take_len]
  have h1 : l.reverse.reverse.take (l.length - (l.reverse.takeWhile b32).length) = (l.reverse.drop (l.reverse.takeWhile b32).length).reverse := by
    rw [List.reverse_drop, List.length_reverse]
  rw [List.reverse_reverse] at h1
  exact h1
theorem rstrip_tl (z : Str) : (Txt.rstripChars z " ").cps.toList = rs z.cps.toList := by
  unfold Txt.rstripChars
  rw [stripBy_eq, StrLaws.strSub_toList]
  have e0 : (" " : Str).cps.contains = b32 := by
    funext c
    have e : (" " : Str).cps = #[32] := rfl
    rw [e]
    unfold b32
    by_cases h : c = 32
    · subst h; simp
    · simp [h]
  rw [e0]
  show ((z.cps.toList.drop 0).take (z.cps.size - ((z.cps.toList.drop 0).reverse.takeWhile b32).length - 0)) = _
  rw [List.drop_zero, Nat.sub_zero, ← Array.length_toList]
  exact rs_take _
theorem dw_dw : ∀ l : List Nat, (l.dropWhile b32).dropWhile b32 = l.dropWhile b32
  | [] => rfl
  | a :: r => by
    by_cases h : b32 a = true
    · rw [List.dropWhile_cons_of_pos h]; exact dw_dw r
    · rw [List.dropWhile_cons_of_neg h, List.dropWhile_cons_of_neg h]
theorem rs_rs (l : List Nat) : rs (rs l) = rs l := by
  unfold rs
  rw [List.reverse_reverse, dw_dw]
theorem dw_map {f : Nat → Nat} (hf : ∀ c, b32 (f c) = b32 c) : ∀ l : List Nat, (l.map f).dropWhile b32 = (l.dropWhile b32).map f
  | [] => rfl
  | a :: r => by
    by_cases h : b32 a = true
    · rw [List.map_cons, List.dropWhile_cons_of_pos (by rw [hf]; exact h), List.dropWhile_cons_of_pos h]; exact dw_map hf r
    · rw [List.map_cons, List.dropWhile_cons_of_neg (by rw [hf]; exact h), List.dropWhile_cons_of_neg h]
      rfl
theorem rs_map {f : Nat → Nat} (hf : ∀ c, b32 (f c) = b32 c) (l : List Nat) : rs (l.map f) = (rs l).map f := by
  unfold rs
  rw [← List.map_reverse, dw_map hf, List.map_reverse]
theorem rs_snoc (l : List Nat) (a : Nat) : rs (l ++ [a]) = if a = 32 then rs l else l ++ [a] := by
  unfold rs
  rw [List.reverse_append]
  show (List.dropWhile b32 (a :: l.reverse)).reverse = _
  by_cases h : a = 32
  · rw [if_pos h, List.dropWhile_cons_of_pos (by unfold b32; simp [h])]
  · rw [if_neg h, List.dropWhile_cons_of_neg (by unfold b32; simp [h]), List.reverse_cons, List.reverse_reverse]
theorem rs_sub {l : List Nat} : ∀ c ∈ rs l, c ∈ l := fun c h => by
  unfold rs at h
  have h := List.mem_reverse.mp h
  exact List.mem_reverse.mp ((List.dropWhile_sublist _).subset h)
theorem lo1_32 (c : Nat) : b32 (lo1 c) = b32 c := by
  unfold lo1 b32
  by_cases h : 65 ≤ c ∧ c ≤ 90
  · rw [if_pos h, decide_eq_false (by omega), decide_eq_false (by omega)]
  · rw [if_neg h]
theorem lo1_lo1 (c : Nat) : lo1 (lo1 c) = lo1 c := by
  unfold lo1
  by_cases h : 65 ≤ c ∧ c ≤ 90
  · rw [if_pos h, if_neg (by omega)]
  · rw [if_neg h, if_neg h]
theorem lo1_lt {c : Nat} (h : c < 128) : lo1 c < 128 := by
  unfold lo1
  split <;> omega
/-- a text of plain signs -/
def As (z : Str) : Prop := ∀ c ∈ z.cps.toList, c < 128
theorem lower_tl {z : Str} (h : As z) : (Txt.lower z).cps.toList = z.cps.toList.map lo1 := by
  rw [lower_ascii h]
  exact Array.toList_map
theorem As.lower {z : Str} (h : As z) : As (Txt.lower z) := fun c hc => by
  rw [lower_tl h] at hc
  obtain ⟨a, ha, rfl⟩ := List.mem_map.mp hc
  exact lo1_lt (h a ha)
theorem As.rstrip {z : Str} (h : As z) : As (Txt.rstripChars z " ") := fun c hc => by
  rw [rstrip_tl] at hc
  exact h c (rs_sub c hc)
end DL
namespace DL
open L2 PySem
open PySem.Spec PyProof.Rows
theorem sjoin_tl : ∀ ys : List Str, (Str.join "" ys).cps.toList = (ys.map (·.cps.toList)).flatten
  | [] => rfl
  | [x] => by simp [Str.join]
  | x :: y :: r => by
    have ih := sjoin_tl (y :: r)
    have e : (Str.join "" (x :: y :: r)) = x ++ "" ++ Str.join "" (y :: r) := rfl
    rw [e]
    have e2 : ∀ a b : Str, (a ++ b).cps.toList = a.cps.toList ++ b.cps.toList := fun a b => by
      show (a.cps ++ b.cps).toList = _
      exact Array.toList_append
    rw [e2, e2, ih]
    have e3 : (("" : Str).cps.toList : List Nat) = [] := rfl
    rw [e3, List.append_nil, List.map_cons (a := x), List.flatten_cons]
theorem join_tl (ys : List Str) : (Txt.join "" ys).cps.toList = (ys.map (·.cps.toList)).flatten := by
  show (Builtin.Str.glued "" ys).cps.toList = _
  rw [StrLaws.glued_eq_join]
  exact sjoin_tl ys
/-- text[-1:] and text[:-1] -/
theorem zlen (z : Str) : z.length = z.cps.toList.length := by
  show z.cps.size = _
  rw [Array.length_toList]
theorem cut_tl (z : Str) (lo hi : Option Int) : (cutS z lo hi).cps.toList = (z.cps.toList.drop (HT.sIx z.length 0 lo)).take (HT.sIx z.length z.length hi - HT.sIx z.length 0 lo) := rfl
theorem cut_last (z : Str) : (cutS z (some (-1)) none).cps.toList = z.cps.toList.drop (z.cps.toList.length - 1) := by
  have e1 : HT.sIx z.length 0 (some (-1)) = z.length - 1 := by
    show (if (-1 : Int) < 0 then ((-1 : Int) + (z.length : Int)).toNat else min (-1 : Int).toNat z.length) = _
    rw [if_pos (by decide)]; omega
  rw [cut_tl, e1, ← zlen]
  show List.take (z.length - (z.length - 1)) _ = _
  refine List.take_of_length_le ?_
  rw [List.length_drop, ← zlen]
  omega
theorem cut_init (z : Str) : (cutS z none (some (-1))).cps.toList = z.cps.toList.take (z.cps.toList.length - 1) := by
  have e1 : HT.sIx z.length z.length (some (-1)) = z.length - 1 := by
    show (if (-1 : Int) < 0 then ((-1 : Int) + (z.length : Int)).toNat else min (-1 : Int).toNat z.length) = _
    rw [if_pos (by decide)]; omega
  rw [cut_tl, e1, ← zlen]
  show List.take (z.length - 1 - 0) (List.drop 0 _) = _
  rw [List.drop_zero, Nat.sub_zero]
/-- one turn of the law's own stripping -/
theorem bare_turn (z : Str) : (cutS z (some (-1)) none = " " ∧ rs (cutS z none (some (-1))).cps.toList = rs z.cps.toList ∧ (cutS z none (some (-1))).length < z.length) ∨ (cutS z (some (-1)) none ≠ " " ∧ rs z.cps.toList = z.cps.toList) := by
  rcases List.eq_nil_or_concat z.cps.toList with h | ⟨l, a, h⟩
  · right
    refine ⟨fun e => ?_, by rw [h]; rfl⟩
    have e1 := congrArg (fun x : Str => x.cps.toList) e
    have e2 : (cutS z (some (-1)) none).cps.toList = [32] := e1
    rw [cut_last, h] at e2
    exact nomatch e2
  · rw [List.concat_eq_append] at h
    have e2 : (cutS z (some (-1)) none).cps.toList = [a] := by
      rw [cut_last, h, List.length_append]
      simp
    have e3 : (cutS z none (some (-1))).cps.toList = l := by
      rw [cut_init, h, List.length_append]
      simp
    by_cases c : a = 32
    · left
      subst c
      refine ⟨str_ext e2, ?_, ?_⟩
      · rw [e3, h, rs_snoc, if_pos rfl]
      · rw [zlen, zlen, e3, h, List.length_append]
        simp
    · right
      refine ⟨fun e => ?_, by rw [h, rs_snoc, if_neg c]⟩
      rw [e] at e2
      have e4 : [32] = [a] := e2
      exact c (List.cons.inj e4).1.symm
section
variable {X : Cx} {Γ : Sg} {O : Ow}
theorem wp_none {kp : Option Int → Ow → Prop} (h : kp none O) : WP X none Γ O kp := h
theorem wp_some {e : Expr} {kp : Option Int → Ow → Prop} (h : WE X e Γ O fun d O1 => ∃ i, d = .int i ∧ kp (some i) O1) : WP X (some e) Γ O kp := h
end
end DL
/-! DL, part M: repr of a plain text -/
namespace DL
open PySem PySem.Spec PyProof.Rows L2 Builtin Builtin.Str
theorem rc39 : ∀ c, c < 128 → (reprChar 39 c).length ≤ 4 := by decide +kernel
theorem rc34 : ∀ c, c < 128 → (reprChar 34 c).length ≤ 4 := by decide +kernel
theorem rq (x : Str) : reprQuote x = 39 ∨ reprQuote x = 34 := by
  unfold reprQuote
  split <;> simp
theorem rfold {q : Nat} (hq : q = 39 ∨ q = 34) : ∀ (l : List Nat) (acc : Array Nat), (∀ c ∈ l, c < 128) → (l.foldl (fun out c => out ++ (reprChar q c).toArray) acc).size ≤ acc.size + 4 * l.length
  | [], acc, _ => by simp
  | c :: l, acc, h => by
    rw [List.foldl_cons]
    have ih := rfold hq l (acc ++ (reprChar q c).toArray) fun d hd => h d (List.mem_cons_of_mem _ hd)
    have hc : (reprChar q c).length ≤ 4 := by
      have h0 := h c (List.mem_cons_self ..)
      rcases hq with rfl | rfl
      · exact rc39 c h0
      · exact rc34 c h0
    have e1 : (acc ++ (reprChar q c).toArray).size = acc.size + (reprChar q c).length := by simp
    rw [e1] at ih
    rw [List.length_cons]
    omega
theorem repr_as {z : Str} (h : As z) : (reprText z).length ≤ 4 * z.length + 2 := by
  have hr := rfold (rq z) z.cps.toList #[reprQuote z] h
  have e : (reprText z).length = (z.cps.toList.foldl (fun out c => out ++ (reprChar (reprQuote z) c).toArray) #[reprQuote z]).size + 1 := by
    show (Array.push _ _).size = _
    rw [Array.size_push,
        ← Array.foldl_toList]
  rw [e, zlen]
  have e2 : (#[reprQuote z] : Array Nat).size = 1 := rfl
  rw [e2] at hr
  omega
section
variable {X : Cx} {O : Ow} {k : KD}
theorem wc_reprA {z : Str} (h1 : As z) (h2 : z.length ≤ 1000) (h : k (.str (reprText z)) O) : WC X (.builtin "repr") [.str z] O k := fun vs L H is hr Q q => by
  obtain ⟨v, rfl, i⟩ := is.one'
  obtain rfl := i.str'
  have fin : Q (.str (reprText z)) H := q _ _ _ _ _ h (.refl L) (.str _) hr
  have hz : (reprText z).length ≤ sizeLine := by
    have := repr_as h1
    rw [sizeLine_eq]
    omega
  intro pins s σ us I rx
  obtain ⟨u, rfl, r1⟩ := Vals.one rx
  obtain ⟨t, rfl⟩ := r1
  exact P.repr_of_str ⟨.str (reprText z), H, I.tok _, ⟨_, rfl⟩, fin⟩ hz
theorem wc_reprN (h : k (.str "None") O) : WC X (.builtin "repr") [.non] O k := fun vs L H is hr Q q => by
  obtain ⟨v, rfl, i⟩ := is.one'
  obtain rfl := i.non'
  have fin : Q (.str "None") H := q _ _ _ _ _ h (.refl L) (.str _) hr
  intro pins s σ us I rx
  obtain ⟨u, rfl, r1⟩ := Vals.one rx
  cases r1
  exact P.repr_of_none ⟨.str "None", H, I.tok _, ⟨_, rfl⟩, fin⟩
end
end DL
/-! DL, part N: how many truths; repr of truths; repr tells cells apart -/
namespace DL
open PySem PySem.Spec PyProof.Rows L2 Builtin Builtin.Str
def eqb (c : Bool) (v : Value) : Bool := match v with
  | .bool b => b == c
  | _ => false
theorem bools_of : ∀ {bs : List Bool} {us : List Value}, Vals (bs.map V.bl) us → us = bs.map Value.bool
  | [], _, h => by cases h; rfl
  | b :: bs, _, h => by
    cases h with
    | cons r t => cases r; rw [bools_of t]; rfl
theorem eqb_count {c : Bool} : ∀ bs : List Bool, (bs.map Value.bool).countP (eqb c) = bs.count c
  | [] => rfl
  | b :: bs => by
    rw [List.map_cons, List.countP_cons, List.count_cons, eqb_count bs]
    rfl
theorem eqb_at {A : Around} {s : Shared} {c : Bool} {bs : List Bool} : ∀ y, y ∈ (bs.map Value.bool).toArray → SeqAt.EqAt A s y (.bool c) (eqb c y) := fun y hy => by
  obtain ⟨b, _, e⟩ := List.mem_map.mp (List.mem_toArray.mp hy)
  rw [← e]
  exact SeqAt.EqAt.bool_bool b c
theorem mt_bcount {X : Cx} : MtR X "list.count" (fun x xs H Q => ∃ (p : Addr) (bs : List Bool) (c : Bool), x = .ref p ∧ xs = [.bl c] ∧ SqL X.K H p (bs.map V.bl) ∧ Q (.int (bs.count c : Nat)) H) :=
  fun pins s σ H x xs v us Q I rx rxs ⟨p, bs, c, hx, hxs, hs, q⟩ => by
    subst hx; subst hxs
    have ev : v = .ref p := rx
    obtain ⟨c', ec, rc⟩ := rxs.one
    have ec' : c' = .bool c := rc
    rw [ev, ec, ec']
    obtain ⟨its, hv, hP, _⟩ := I.list hs
    rw [bools_of hv] at hP
    obtain ⟨o, n, h1, h2, _, h4⟩ := hP
    cases o with
    | mk ocls odict odata oslots =>
      have h2' : ocls = .type "list" := h2
      have h4' : odata = .seq (bs.map Value.bool).toArray n := h4
      rw [h2', h4'] at h1
      have hcall := SeqAt.list_countAt p (bs.map Value.bool).toArray n odict oslots (.bool c) (eqb c)
      refine call_meets PySem.F.slot_list_count ⟨_, h1, rfl⟩ PySem.F.entry_list_count (PySem.F.args_list_count_2 _ _) hcall ⟨h1, eqb_at, .int (bs.count c : Nat), H, I.tok _, ?_, q⟩
      exact ⟨s.toks, by rw [List.toList_toArray, eqb_count bs]⟩
section
variable {X : Cx} {O : Ow} {k : KD}
theorem wm_countB {bs : List Bool} {c : Bool} (h : k (.int (bs.count c : Nat)) O) : WM X "list.count" (.lst (bs.map .bl)) [.bl c] O k := fun vx vs L H ix is hr Q q => by
  obtain ⟨v, rfl, i1⟩ := is.one'
  obtain rfl := i1.bl'
  obtain ⟨p, us, rfl, s, t⟩ := sqD_of hr sq_lst ix
  rw [isL_bl t] at s
  exact toM mt_bcount ⟨p, bs, c, rfl, rfl, s, q _ _ _ _ _ h (.refl L) (.int _) hr⟩
theorem wm_count2 {a b c : Bool} (h : k (.int ([a, b].count c : Nat)) O) : WM X "list.count" (.lst [.bl a, .bl b]) [.bl c] O k := wm_countB (bs := [a, b]) h
theorem wm_count3 {a b e c : Bool} (h : k (.int ([a, b, e].count c : Nat)) O) : WM X "list.count" (.lst [.bl a, .bl b, .bl e]) [.bl c] O k := wm_countB (bs := [a, b, e]) h
def blS (b : Bool) : Str := if b then "True" else "False"
theorem wc_reprB {b : Bool} (h : k (.str (blS b)) O) : WC X (.builtin "repr") [.bl b] O k := fun vs L H is hr Q q => by
  obtain ⟨v, rfl, i⟩ := is.one'
  obtain rfl := i.bl'
  have fin : Q (.str (blS b)) H := q _ _ _ _ _ h (.refl L) (.str _) hr
  intro pins s σ us I rx
  obtain ⟨u, rfl, r1⟩ := Vals.one rx
  cases r1
  exact P.repr_of_bool ⟨.str (blS b), H, I.tok _, ⟨_, rfl⟩, fin⟩
theorem blS_inj {a b : Bool} : decide (blS a = blS b) = decide (a = b) := by cases a <;> cases b <;> decide +kernel
theorem tym_lst {ds : List D} {p : Prop} (h : p) : TyM O (.lst ds) "list" ∧ p := ⟨.inl ⟨rfl, ds, sq_lst⟩, h⟩
end
/-! ### repr tells texts apart -/
theorem rc_pre39 : ∀ c, c < 128 → ∀ d, d < 128 → (reprChar 39 c).isPrefixOf (reprChar 39 d) = true → c = d := by decide +kernel
theorem rc_pre34 : ∀ c, c < 128 → ∀ d, d < 128 → (reprChar 34 c).isPrefixOf (reprChar 34 d) = true → c = d := by decide +kernel
theorem rc_pos : ∀ c, c < 128 → reprChar 39 c ≠ [] ∧ reprChar 34 c ≠ [] := by decide +kernel
theorem fold_flat {f : Nat → List Nat} : ∀ (l : List Nat) (acc : Array Nat), (l.foldl (fun out c => out ++ (f c).toArray) acc).toList = acc.toList ++ l.flatMap f
  | [], acc => by simp
  | c :: l, acc => by
    rw [List.foldl_cons, fold_flat l, List.flatMap_cons]
    simp
theorem repr_tl (z : Str) : (reprText z).cps.toList = reprQuote z :: (z.cps.toList.flatMap (reprChar (reprQuote z)) ++ [reprQuote z]) := by
  show (Array.push _ _).toList = _
  rw [Array.toList_push, ← Array.foldl_toList, fold_flat]
  rfl
theorem flat_inj {f : Nat → List Nat} (h1 : ∀ c, c < 128 → ∀ d, d < 128 → (f c).isPrefixOf (f d) = true → c = d) (h0 : ∀ c, c < 128 → f c ≠ []) : ∀ {l m : List Nat}, (∀ c ∈ l, c < 128) → (∀ c ∈ m, c < 128) → l.flatMap f = m.flatMap f → l = m
  | [], [], _, _, _ => rfl
  | [], d :: m, _, hm, e => by
    rw [List.flatMap_cons, List.flatMap_nil] at e
    exact absurd (List.append_eq_nil_iff.mp e.symm).1 (h0 d (hm d (List.mem_cons_self ..)))
  | c :: l, [], hl, _, e => by
    rw [List.flatMap_cons, List.flatMap_nil] at e
    exact absurd (List.append_eq_nil_iff.mp e).1 (h0 c (hl c (List.mem_cons_self ..)))
  | c :: l, d :: m, hl, hm, e => by
    rw [List.flatMap_cons, List.flatMap_cons] at e
    have hc := hl c (List.mem_cons_self ..)
    have hd := hm d (List.mem_cons_self ..)
    have p1 : f c <+: f c ++ l.flatMap f := List.prefix_append ..
    have p2 : f d <+: f c ++ l.flatMap f := e ▸ List.prefix_append ..
    have ecd : c = d := by
      rcases Nat.le_total (f c).length (f d).length with q | q
      · exact h1 c hc d hd (List.isPrefixOf_iff_prefix.mpr (List.prefix_of_prefix_length_le p1 p2 q))
      · exact (h1 d hd c hc (List.isPrefixOf_iff_prefix.mpr (List.prefix_of_prefix_length_le p2 p1 q))).symm
    subst ecd
    rw [flat_inj h1 h0 (fun c hc => hl c (List.mem_cons_of_mem _ hc)) (fun c hc => hm c (List.mem_cons_of_mem _ hc)) (List.append_cancel_left e)]
theorem repr_inj {x y : Str} (hx : As x) (hy : As y) (h : reprText x = reprText y) : x = y := by
  have e : (reprText x).cps.toList = (reprText y).cps.toList := by rw [h]
  rw [repr_tl, repr_tl, List.cons.injEq] at e
  obtain ⟨e1, e2⟩ := e
  rw [← e1] at e2
  have e3 := List.append_cancel_right e2
  refine str_ext ?_
  rcases rq x with q | q <;> rw [q] at e3
  · exact flat_inj rc_pre39 (fun c hc => (rc_pos c hc).1) hx hy e3
  · exact flat_inj rc_pre34 (fun c hc => (rc_pos c hc).2) hx hy e3
theorem repr_nn {x : Str} : reprText x ≠ "None" := fun h => by
  have e : (reprText x).cps.toList = ("None" : Str).cps.toList := by rw [h]
  rw [repr_tl] at e
  have e2 : ("None" : Str).cps.toList = [78, 111, 110, 101] := by decide +kernel
  rw [e2, List.cons.injEq] at e
  rcases rq x with q | q <;> rw [q] at e <;> exact absurd e.1 (by decide)
/-! ### and numbers -/
theorem neg_tl (m : Nat) : (PySem.Str.ofString (toString (Int.negSucc m))).cps.toList = 45 :: (Nat.toDigits 10 (m + 1)).map Char.toNat := by
  rw [signs_ofString]
  show (("-" ++ Nat.repr (m + 1)).toList.map Char.toNat) = _
  rw [String.toList_append, List.map_append, Nat.toList_repr]
  rfl
theorem dig_ne {m : Nat} {c : Nat} {l : List Nat} (h : (Nat.toDigits 10 m).map Char.toNat = c :: l) : 48 ≤ c ∧ c ≤ 57 := by
  have hc : c ∈ (Nat.toDigits 10 m).map Char.toNat := h ▸ List.mem_cons_self ..
  obtain ⟨ch, hch,
      e⟩ := List.mem_map.mp hc
  have r := digit_range (Nat.isDigit_of_mem_toDigits
      (by decide) (by decide) hch)
  rw [e] at r
  exact r
theorem int_inj {a b : Int} (h : (PySem.Str.ofString (toString a)) = PySem.Str.ofString (toString b)) : a = b := by
  have e : (PySem.Str.ofString (toString a)).cps.toList = (PySem.Str.ofString (toString b)).cps.toList := by rw [h]
  cases a with
  | ofNat m =>
    cases b with
    | ofNat n =>
      have e1 : (Nat.toDigits 10 m).map Char.toNat = (Nat.toDigits 10 n).map Char.toNat := (PySem.W.KIN.signs_num m).symm.trans (e.trans (PySem.W.KIN.signs_num n))
      have e2 := PySem.W.KIN.val_back m
      rw [e1, PySem.W.KIN.val_back n] at e2
      rw [e2]
    | negSucc n =>
      have e1 : (Nat.toDigits 10 m).map Char.toNat = 45 :: _ := (PySem.W.KIN.signs_num m).symm.trans (e.trans (neg_tl n))
      exact absurd (dig_ne e1).1 (by decide)
  | negSucc m =>
    cases b with
    | ofNat n =>
      have e1 : (Nat.toDigits 10 n).map Char.toNat = 45 :: _ := (PySem.W.KIN.signs_num n).symm.trans (e.symm.trans (neg_tl m))
      exact absurd (dig_ne e1).1 (by decide)
    | negSucc n =>
      rw [neg_tl, neg_tl, List.cons.injEq] at e
      have e2 := PySem.W.KIN.val_back (m + 1)
      rw [e.2, PySem.W.KIN.val_back (n + 1)] at e2
      have : m = n := by omega
      rw [this]
theorem int_nn {a : Int} : (PySem.Str.ofString (toString a)) ≠ "None" := fun h => by
  have e : (PySem.Str.ofString (toString a)).cps.toList = ("None" : Str).cps.toList := by rw [h]
  have e2 : ("None" : Str).cps.toList = [78, 111, 110, 101] := by decide +kernel
  rw [e2] at e
  cases a with
  | ofNat m => exact absurd (dig_ne ((PySem.W.KIN.signs_num m).symm.trans e)).2 (by decide)
  | negSucc m => rw [neg_tl, List.cons.injEq] at e; exact absurd e.1 (by decide)
end DL
/-! DL, part P: methods that are called by keywords -/
namespace DL
open L2 PySem
open PySem.Spec PyProof.Rows
def uK (X : Cx) (kws : List Keyword) : TA := fun σ H Q => ∀ pos pins s, Inv X pins σ H s → wpAny (model X.prog X.w) X.A (evalAll ((backToKw pos (keywordEach kws X.env)).map (·.2))) (AP X pins σ Q) X.xe s
theorem pku {X : Cx} (kws : List Keyword) : PK X kws (uK X kws) := ⟨fun pos pins s σ H Q I h => h pos pins s I⟩
theorem toK {X : Cx} {σ : L2.St} {H : Hp} {kws : List Keyword} {t : TA} (h : PK X kws t) {Q} (q : t σ H Q) : uK X kws σ H Q := fun pos pins s I => h.run pos pins s σ H Q I q
def WK (X : Cx) (kws : List Keyword) (Γ : Sg) (O : Ow) (k : List D → Ow → Prop) : Prop := ∀ σ L H, Sl X.K L σ Γ → R X.K L O H → ∀ Q, FolA X.K L k Q → uK X kws σ H Q
section
variable {X : Cx} {Γ : Sg} {O : Ow} {k : KD} {ka : List D → Ow → Prop}
theorem wk_nil (h : ka [] O) : WK X [] Γ O ka := fun σ L H hs hr Q q => toK pk_nil (q _ _ _ _ _ h (.refl L) .nil hr)
theorem wk_cons {e : Expr} {kws : List Keyword} {nm : Option Str} {kpos : Pos} (h : WE X e Γ O fun x O1 => WK X kws Γ O1 fun ds O2 => ka (x :: ds) O2) : WK X (⟨nm, e, kpos⟩ :: kws) Γ O ka := fun σ L H hs hr Q q => by
  refine toK (pk_cons (pu e) (pku kws)) ?_
  refine h σ L H hs hr _ fun x dx O1 L1 H1 h1 e1 i1 r1 => ?_
  refine h1 σ L1 H1 (hs.mono e1) r1 _ fun vs ds O2 L2 H2 h2 e2 i2 r2 => ?_
  exact q _ _ _ _ _ h2 (e1.trans e2) (.cons (i1.mono e2) i2) r2
theorem run_gK {pins : List (Addr × Obj)} {σ : L2.St} {H : Hp} {s : Shared} {Q : VK} {us ws : List Value} {vs zs : List V} {j n : Nat} {f : Addr} {fd : FuncData} {ps ks : List Str} {sp : Sp} {g : List Value → List Value → List Value} {gV : List V → List V → List V}
    (G : FnG X.prog X.w X.K X.mg X.base CX0 j f fd ps sp) (hgd : X.A.guards = some []) (hr : Room j X.A) (hb : KBn X.K fd ps n ks g gV)
    (I : Inv X pins σ H s) (r : Vals vs us) (rz : Vals zs ws) (l1 : vs.length = n) (l2 : zs.length = ks.length) (h : sp (gV vs zs) H Q E0) : wpAny (model X.prog X.w) X.A (call (.ref f) us (ks.zip ws)) (EP X pins σ Q) X.xe s := by
  have b := hb.to s us ws I.kIn (by rw [← r.length, l1]) (by rw [← rz.length, l2])
  refine wpAny_call (codeAny_mono (G.go X.A X.stack s H ⟨us, ks.zip ws⟩ (g us ws) (gV vs zs) Q E0 hgd hr I.env0 b (hb.rel r rz) h) fun r s' hq => ?_)
  match r, hq with
  | .ok (.ret u), hq => exact I.after hq
  | .ok .next, hq => exact hq.elim
  | .ok .brk, hq => exact hq.elim
  | .ok .cont, hq => exact hq.elim
  | .error e, hq => exact hq.elim
/-- the same values, over data -/
def GOk (K : PySem.W.Frag) (gV : List V → List V → List V) (gD : List D → List D → List D) : Prop := ∀ (L : Lg) (vs : List V) (ds : List D) (zs : List V) (es : List D), IsL K L vs ds → IsL K L zs es → IsL K L (gV vs zs) (gD ds es)
structure Kmk (X : Cx) (C : Addr) (m : Str) (j : Nat) (S : SpD) (ks : List Str) (gD : List D → List D → List D) : Prop where
  ex : ∃ (f : Addr) (fd : FuncData) (ps : List Str) (g : List Value → List Value → List Value) (gV : List V → List V → List V), FnG X.prog X.w X.K X.mg X.base CX0 j f fd ps (spOf X.K S) ∧ Meth X.K C m f ∧ KBn X.K fd ps 1 ks g gV ∧ GOk X.K gV gD
  cl : Cls X.K C
theorem we_methK {C : Addr} {m : Str} {j : Nat} {S : SpD} {ks : List Str} {gD : List D → List D → List D} {o : Expr} {kws : List Keyword} {apos pos : Pos} {pl : Sem Bool} (F : Kmk X C m j S ks gD) (hgd : X.A.guards = some []) (hr : Room j X.A)
    (hall : (backToKw pos (keywordEach kws X.env)).all (·.1.isSome) = true) (hks : (backToKw pos (keywordEach kws X.env)).filterMap (·.1) = ks)
    (hpl : ((backTo pos (starEach [] X.env)).any (·.1) || (backToKw pos (keywordEach kws X.env)).any (·.1.isNone)) = false)
    (ht : eval (.Call (.Attribute o m apos) [] kws pos) X.env = (do
      let obj ← eval o X.env
      standAt apos.atName
      let (fn, head) ← holding [obj] (getMethod obj m pl)
      callWith pos fn head (backTo pos (starEach [] X.env)) (backToKw pos (keywordEach kws X.env))))
    (h : WE X o Γ O fun x O1 => ∃ fds, InD O1 x C fds ∧ fds.lookup m = none ∧ WK X kws Γ O1 fun ds O2 => ds.length = ks.length ∧ S (gD [x] ds) O2 k fun _ _ _ => False) : WE X (.Call (.Attribute o m apos) [] kws pos) Γ O k := fun σ L H hs hR Q q pins s I => by
  obtain ⟨f, fd, ps, g, gV, G, hm, hb, hG⟩ := F.ex
  refine PySem.W.methodCall_KW (pl := pl) (thn (h σ L H hs hR (fun v H1 => ∃ x O1 L1, (∃ fds, InD O1 x C fds ∧ fds.lookup m = none ∧ WK X kws Γ O1 fun ds O2 => ds.length = ks.length ∧ S (gD [x] ds) O2 k fun _ _ _ => False) ∧ L.le L1 ∧ Is X.K L1 v x ∧ R X.K L1 O1 H1) (fun v x O1 L1 H1 a b c d => ⟨x, O1, L1, a, b, c, d⟩) pins s I)
    fun u s1 ⟨v, H1, I1, rv, x, O1, L1, ⟨fds, hi, hl, h2⟩, le1, is1, r1⟩ => ?_) ht
  obtain ⟨a, dx, fs, rfl, g1, g2, g3⟩ := inD_of r1 hi is1
  obtain rfl : u = Value.ref a := rv
  refine getmeth_ok I1 g1 F.cl hm ((lookup_is g2 g3).2 hl) ?_
  refine PySem.W.callWith_KW0 (first := [.ref a]) (h₀ := X.base) I1.ok.mod.kin hm.kp hall (thn (h2 σ L1 H1 (hs.mono le1) r1 (fun vs H2 => ∃ ds O2 L2, (ds.length = ks.length ∧ S (gD [x] ds) O2 k fun _ _ _ => False) ∧ L1.le L2 ∧ IsL X.K L2 vs ds ∧ R X.K L2 O2 H2) (fun vs ds O2 L2 H2 a b c d => ⟨ds, O2, L2, a, b, c, d⟩) pos pins s1 I1)
    fun us s2 ⟨vs, H2, I2, rvs, ds, O2, L2, ⟨h3, h4⟩, le2, is2, r2⟩ => ⟨I2.kIn, ?_⟩) hpl
  rw [hks]
  exact run_gK (us := [.ref a]) (vs := [.ref a]) G hgd hr hb I2 (.cons rfl .nil) rvs rfl (by rw [is2.length]; exact h3) (sp_of h4 (hG L2 _ _ _ _ (.cons (is1.mono le2) .nil) is2) r2 (q.le (le1.trans le2)))
end
/-- what the dict of keyword defaults holds -/
inductive KwL (K : PySem.W.Frag) (Dk : Addr) : List (Str × V) → Prop
  | nil : KwL K Dk []
  | cons {x : Str} {v : V} {u : Value} {l : List (Str × V)} (a : PySem.W.nsIn K Dk x = some (some u)) (r : RelV v u) (t : KwL K Dk l) : KwL K Dk ((x, v) :: l)
theorem KwL.all {K : PySem.W.Frag} {Dk : Addr} : ∀ {l : List (Str × V)}, KwL K Dk l → ∀ q ∈ l, ∃ u, PySem.W.nsIn K Dk q.1 = some (some u) ∧ RelV q.2 u
  | _, .nil, q, h => by cases h
  | _, .cons a r t, q, h => by
    rcases List.mem_cons.mp
        h with e | e
    · subst e; exact ⟨_, a, r⟩
    · exact t.all q e
/-- a method with keyword-only parameters, where it stands -/
inductive Dnk (K : PySem.W.Frag) (C : Addr) (m qual : Str) (st : Stmt) (kws : List (Str × V)) : Prop
  | mk {f Dk : Addr} {oc : Value} {od an : Option Addr} {osl : Array (Option Value)} {doc pm cdv ct : Value} (a : PySem.W.findIn K (.ref C) m = some (some (.ref f))) (i : PySem.W.isFn K (.ref f) = true)
      (l : K.lookup f = some ⟨oc, od, .func (PySem.W.fnOf m qual (defArgs st) (defBody st) (defScope st) .none (.ref Dk) doc pm an cdv ct), osl⟩) (c : PySem.W.codeIn K cdv qual = true) (k : PySem.W.keepIn K (.ref f) = true) (w : KwL K Dk kws) : Dnk K C m qual st kws
section
variable {base : Heap} {mg : Str → Option Value} {K : PySem.W.Frag} {w : World} {P : Program}
structure Pkk (P : Program) (w : World) (K : PySem.W.Frag) (mg : Str → Option Value) (base : Heap) (C : Addr) (m : Str) (j : Nat) (S : SpD) (ks : List Str) (gD : List D → List D → List D) : Prop where
  ex : ∃ (f : Addr) (fd : FuncData) (ps : List Str) (g : List Value → List Value → List Value) (gV : List V → List V → List V), FnG P w K mg base CX0 j f fd ps (spOf K S) ∧ Meth K C m f ∧ KBn K fd ps 1 ks g gV ∧ GOk K gV gD
  cl : Cls K C
theorem Pkk.kmk {C : Addr} {m : Str} {j : Nat} {S : SpD} {ks : List Str} {gD : List D → List D → List D} (F : Pkk P w K mg base C m j S ks gD) {X : Cx} (e1 : X.prog = P) (e2 : X.w = w) (e3 : X.K = K) (e4 : X.mg = mg) (e5 : X.base = base) : Kmk X C m j S ks gD := by
  subst e1 e2 e3 e4 e5
  exact ⟨F.ex, F.cl⟩
/-- ks are given, ms lack; how all are put together: g self those of ms those of ks -/
theorem Pkk.of {C : Addr} {m qual : Str} {st : Stmt} {N ps : List Str} {j : Nat} {S : SpD} {kws : List (Str × V)} (T : Dnk K C m qual st kws) (c : Cls K C) (Sc : FnScope N ps (defScope st)) (len : ∀ ds O k kx, S ds O k kx → ds.length = ps.length)
    (h : ∀ (f : Addr) (cdv : Value) (A : Around) (outer : List Env) (s : Shared) (H : Hp) (E : XK), A.guards = some [] → Room j (A.deeper (envOfC qual (defScope st) s.heap.objs.size f cdv)) → ∀ ds O k kx, S ds O k kx →
      WSs (Bo P w K mg base N qual st f cdv A outer s H E) (defBody st) (gst N.length ds) O { nx := fun _ O' => Ret k .non O', rt := Ret k })
    (ks : List Str) (ms : List (Str × V)) (es : List D) (g : {α : Type} → List α → List α → List α → List α) (hk : kws ≠ []) (hms : ∀ q ∈ ms, q ∈ kws) (hes : ∀ L, IsL K L (ms.map (·.2)) es)
    (hrel : ∀ {vs mz zs : List V} {us mv ws : List Value},
        Vals vs us → Vals mz mv → Vals zs ws → Vals (g vs mz zs) (g us mv ws))
    (hD : ∀ (L : Lg) (vs : List V) (ds : List D) (zs : List V) (fs : List D), IsL K L vs ds → IsL K L zs fs → IsL K L (g vs (ms.map (·.2)) zs) (g ds es fs))
    (hb : ∀ (Dk : Addr) (doc pm : Value) (an : Option Addr) (cdv ct : Value) (us mv ws : List Value), us.length = 1 → mv.length = ms.length → ws.length = ks.length →
      KwChain Dk ((ms.map (·.1)).zip mv) (bindArgs (PySem.W.fnOf m qual (defArgs st) (defBody st) (defScope st) .none (.ref Dk) doc pm an cdv ct) ⟨us, ks.zip ws⟩) (ps.zip (g us mv ws))) : Pkk P w K mg base C m (j + 1) S ks (fun ds fs => g ds es fs) := by
  cases T with
  | mk a i l c2 kp wl =>
    obtain ⟨mv, hl, rk, hks⟩ := kwd_vals (ms := ms) fun q hm => wl.all q (hms q hm)
    have hG : GOk K (fun vs zs => g vs (ms.map fun q => q.2) zs) (fun ds fs => g ds es fs) := hD
    have hB : ∀ doc pm an cdv ct, KBn K (PySem.W.fnOf m qual (defArgs st) (defBody st) (defScope st) .none (.ref _) doc pm an cdv ct) ps 1 ks (fun us ws => g us mv ws) (fun vs zs => g vs (ms.map fun q => q.2) zs) := fun doc pm an cdv ct =>
      ⟨fun s us ws X l1 l2 => L2.BindsTo.of_looks fun M => KwChain.looks X hks (hb _ doc pm an cdv ct us mv ws l1 hl l2), fun r1 r2 => hrel r1 rk r2⟩
    exact ⟨⟨_, _, ps, _, _, fn_body (funx_mk l c2) Sc len (h _), ⟨a, i, kp⟩, hB _ _ _ _ _, hG⟩, c⟩
end
/-! ### what kind of goal it is -/
section
variable {X : Cx} {Γ : Sg} {O : Ow} {k : KD} {kt : Bool → Ow → Prop} {ka : List D → Ow → Prop} {kn : Sg → Ow → Prop} {ko : Ow → Prop} {De : DE} {x y d : D} {ds : List D} {e : Expr} {es : List Expr} {st : Stmt} {sts : List Stmt} {f : Value} {id : String}
theorem gWE (h : WE X e Γ O k) : WE X e Γ O k := h
theorem gWT (h : WT X e Γ O kt) : WT X e Γ O kt := h
theorem gWW (h : WW X e Γ O kt) : WW X e Γ O kt := h
theorem gWA (h : WA X es Γ O ka) : WA X es Γ O ka := h
theorem gWS (h : WS X st Γ O De) : WS X st Γ O De := h
theorem gWSs (h : WSs X sts Γ O De) : WSs X sts Γ O De := h
theorem gWO {o : Value → Value → Sem Value} (h : WO X o x y O k) : WO X o x y O k := h
theorem gWU {o : Value → Sem Value} (h : WU X o x O k) : WU X o x O k := h
theorem gWC (h : WC X f ds O k) : WC X f ds O k := h
theorem gWI (h : WI X x y O k) : WI X x y O k := h
theorem gWM (h : WM X id x ds O k) : WM X id x ds O k := h
theorem gWG (h : WG X e d Γ O kn) : WG X e d Γ O kn := h
theorem gWGs (h : WGs X es ds Γ O kn) : WGs X es ds Γ O kn := h
theorem gWP {p : Option Expr} {kp : Option Int → Ow → Prop} (h : WP X p Γ O kp) : WP X p Γ O kp := h
theorem gWSl {lo hi : Option Int} (h : WSl X x lo hi O k) : WSl X x lo hi O k := h
theorem gWPs {ks : List (Option Expr)} {kp : List (D × D) → Ow → Prop} (h : WPs X ks es Γ O kp) : WPs X ks es Γ O kp := h
theorem gWSet (h : WSet X x y d O ko) : WSet X x y d O ko := h
theorem gLoopD {tg : Expr} (h : LoopD X tg sts De ds Γ O) : LoopD X tg sts De ds Γ O := h
end
end DL
/-! DL, part Q: raised exceptions over data -/
namespace DL
open L2 PySem
open PySem.Spec PyProof.Rows
/-- class, its attributes, the slots, what is owned -/
abbrev KG := Addr → List (Str × D) → Sg → Ow → Prop
/-- exceptions that the context takes, where all that was known at L0 is still known -/
structure Tx (X : Cx) (L0 : Lg) (kg : KG) : Prop where
  ex : ∃ W : WX, Takes X W ∧ ∀ (C d : Addr) (fs : List (Str × V)) (fds : List (Str × D)) (Γ : Sg) (O : Ow) (σ : L2.St) (L : Lg) (H : Hp), kg C fds Γ O → L0.le L → Sl X.K L σ Γ → H d = some (.xd fs) →
    fs.map (·.1) = fds.map (·.1) → IsL X.K L (fs.map (·.2)) (fds.map (·.2)) → R X.K L O H → W (.ref C) (some d) σ H
def WEx (X : Cx) (L0 : Lg) (e : Expr) (Γ : Sg) (O : Ow) (k : KD) : Prop := ∀ σ L H, L0.le L → Sl X.K L σ Γ → R X.K L O H → ∀ Q, Fol X.K L k Q → uE X e σ H Q
def WSx (X : Cx) (L0 : Lg) (st : Stmt) (Γ : Sg) (O : Ow) (De : DE) : Prop := ∀ σ L H, L0.le L → Sl X.K L σ Γ → R X.K L O H → ∀ E, FolS X.K L De E → uS X st E σ H
def WSsx (X : Cx) (L0 : Lg) (st : List Stmt) (Γ : Sg) (O : Ow) (De : DE) : Prop := ∀ σ L H, L0.le L → Sl X.K L σ Γ → R X.K L O H → ∀ E, FolS X.K L De E → uSs X st E σ H
section
variable {X : Cx} {L0 : Lg} {kg : KG} {Γ : Sg} {O : Ow} {k : KD} {De : DE} {st : Stmt} {rest : List Stmt} {e : Expr} {es : List Expr} {pos pos' : Pos}
theorem we_x (h : WE X e Γ O k) : WEx X L0 e Γ O k := fun σ L H _ => h σ L H
theorem ws_x (h : WS X st Γ O De) : WSx X L0 st Γ O De := fun σ L H _ => h σ L H
theorem wss_x (h : WSs X rest Γ O De) : WSsx X L0 rest Γ O De := fun σ L H _ => h σ L H
theorem xs_nil (h : De.nx Γ O) : WSsx X L0 [] Γ O De := wss_x (ws_nil h)
theorem xs_cons (h : WSx X L0 st Γ O { De with nx := fun Γ' O' => WSsx X L0 rest Γ' O' De }) : WSsx X L0 (st :: rest) Γ O De := fun σ L H l0 hs hr E q => by
  refine toSs (pss_cons (psu st) (pssu rest)) ?_
  exact h σ L H l0 hs hr _ (q.nxt fun Γ' O' σ' L' H' h' e' hs' hr' => h' σ' L' H' (l0.trans e') hs' hr' E (q.le e'))
theorem xs_one (h : WSx X L0 st Γ O De) : WSsx X L0 [st] Γ O De := fun σ L H l0 hs hr E q => toSs (pss_one (psu st)) (h σ L H l0 hs hr E q)
theorem xs_ret (h : WEx X L0 e Γ O De.rt) : WSx X L0 (.Return (some e) pos) Γ O De := fun σ L H l0 hs hr E q => toS (ps_ret (pu e)) (h σ L H l0 hs hr _ q.rt)
theorem xs_set {x : Str} {i : Nat} (hx : Vs X x i) (hw : swapsWith e (some (.Name x pos')) pos.line X.env = pure false) (h : WEx X L0 e Γ O fun d O1 => De.nx (Γ.set i (some d)) O1) : WSx X L0 (.Assign [.Name x pos'] e pos) Γ O De := fun σ L H l0 hs hr E q => by
  refine toS (ps_set (i := i) hx.nd hx.hN hx.hl (pu e) hw hx.hf) ?_
  exact h σ L H l0 hs hr _ fun v d O1 L1 H1 h1 e1 i1 r1 => q.nx _ _ _ _ _ h1 e1 ((hs.mono e1).set i1 i) r1
theorem xs_if {c : Expr} {a b : List Stmt} (h : WT X c Γ O fun t O1 => if t = true then WSsx X L0 a Γ O1 De else WSsx X L0 b Γ O1 De) : WSx X L0 (.If c a b pos) Γ O De := fun σ L H l0 hs hr E q => by
  refine toS (ps_if (ptu c) (pssu a) (pssu b)) ?_
  refine h σ L H hs hr _ fun t O1 L1 H1 h1 e1 r1 => ?_
  cases t with
  | true =>
    have h2 : WSsx X L0 a Γ O1 De := h1
    exact iteT (h2 σ L1 H1 (l0.trans e1) (hs.mono e1) r1 E (q.le e1))
  | false =>
    have h2 : WSsx X L0 b Γ O1 De := h1
    exact iteF (h2 σ L1 H1 (l0.trans e1) (hs.mono e1) r1 E (q.le e1))
/-! ### own exceptions with one attribute -/
/-- what __init__(self, f) does -/
def spXc (C : Addr) (f : Str) : Sp := fun vs H Q _ => ∃ (a : Addr) (y : V), vs = [.ref a, y] ∧ H a = some (exo a C none) ∧ ∀ dx, H dx = none → dx ≠ a → Q .non (upd (upd H dx (exd dx [(f, y)])) a (exo a C (some dx)))
/-- the exception class x at C, whose __init__ keeps one argument in f -/
structure Kx (X : Cx) (x : Str) (C : Addr) (f : Str) (j : Nat) : Prop where
  cl : OexC X.K C
  ex : ∃ (fI : Addr) (fd : FuncData) (ps : List Str), PySem.W.findIn X.K (.ref C) "__init__" = some (some (.ref fI)) ∧ PySem.W.typeIn X.K (.ref fI) = some (.type "function") ∧ FnOk X.prog X.w X.K X.mg X.base CX0 j fI fd ps (spXc C f) ∧ Binds X.K fd ps []
  mg : X.mg x = some (.ref C)
  gl : Gl X x
  db : (x == ("__debug__" : Str)) = false
theorem xs_raise {x f : Str} {C : Addr} {j : Nat} {p cpos : Pos} (hc : X.calm = true) (tx : Tx X L0 kg) (F : Kx X x C f j) (hr : Room (j + 1) X.A) (he : starEach [e] X.env = (false, eval e X.env) :: starEach [] X.env) (hpl : (backTo cpos (starEach [] X.env)).any (·.1) = false)
    (h : WE X e Γ O fun d O1 => kg C [(f, d)] Γ O1) : WSx X L0 (.Raise (some (.Call (.Name x p) [e] [] cpos)) none pos) Γ O De := fun σ L H l0 hs hR E q => by
  obtain ⟨W, tk, tw⟩ := tx.ex
  obtain ⟨fI, fd, ps, iC, tI, F1, hb⟩ := F.ex
  refine toS (ps_raise hc tk (pmk_oex (dvs := []) F.cl iC tI F1 hr hb .nil pass0 F.gl F.mg (pau [e]) F.db he hpl)) ?_
  have ha : WA X [e] Γ O fun ds O1 => ∃ d, ds = [d] ∧ kg C [(f, d)] Γ O1 := wa_cons he (h.imp fun d O1 z => wa_nil ⟨d, rfl, z⟩)
  refine ha σ L H hs hR _ fun vs ds O1 L1 H1 h1 e1 i1 r1 => ?_
  obtain ⟨d, rfl, hk⟩ := h1
  obtain ⟨v, rfl, iv⟩ := i1.one'
  refine ⟨by show 1 ≤ 1000; decide, fun a ha1 => ⟨a, v, rfl, upd_same, fun dx hdx hne => ?_⟩⟩
  have h1dx : H1 dx = none := by rw [upd_ne hne] at hdx; exact hdx
  refine ⟨rfl, dx, [(f, v)], upd_same, ?_, h1dx, ?_⟩
  · rw [upd_ne hne]; exact upd_same
  have eH : upd (L2.del (upd (upd (upd H1 a (exo a C none)) dx (exd dx [(f, v)])) a (exo a C (some dx))) a) dx (.xd [(f, v)]) = upd H1 dx (.xd [(f, v)]) := by
    funext b
    by_cases c1 : b = dx
    · subst c1; rw [upd_same, upd_same]
    · rw [upd_ne c1, upd_ne c1]
      by_cases c2 : b = a
      · subst c2
        rw [ha1]
        simp [L2.del]
      · have e3 : L2.del (upd (upd (upd H1 a (exo a C none)) dx (exd dx [(f, v)])) a (exo a C (some dx))) a b = upd (upd (upd H1 a (exo a C none)) dx (exd dx [(f, v)])) a (exo a C (some dx)) b := by
          simp [L2.del, c2]
        rw [e3, upd_ne c2, upd_ne c1, upd_ne c2]
  rw [eH]
  exact tw C dx [(f, v)] [(f, d)] Γ O1 σ L1 _ hk (l0.trans e1) (hs.mono e1) upd_same rfl (.cons iv .nil) (r1.aside h1dx)
end
/-! ### defs and classes that raise -/
section
variable {base : Heap} {mg : Str → Option Value} {K : PySem.W.Frag} {w : World} {P : Program}
/-- the context of the body of a def that may raise -/
abbrev Bx (P : Program) (w : World) (K : PySem.W.Frag) (mg : Str → Option Value) (base : Heap) (N : List Str) (qual : Str) (st : Stmt) (f : Addr) (cdv : Value) (A : Around) (outer : List Env) (s : Shared) (H : Hp) (E : XK) : Cx :=
  cxOf (L2.CX P w) P w K mg base N qual (defScope st) f cdv A outer s H E
theorem fn_bodyX {x qual : Str} {st : Stmt} {f : Addr} {fd : FuncData} {N ps : List Str} {j : Nat} {S : SpD} (F : FunX K x qual st f fd) (Sc : FnScope N ps (defScope st)) (len : ∀ ds O k kx, S ds O k kx → ds.length = ps.length)
    (h : ∀ (cdv : Value) (A : Around) (outer : List Env) (s : Shared) (H : Hp) (E : XK), A.guards = some [] → Room j (A.deeper (envOfC qual (defScope st) s.heap.objs.size f cdv)) → ∀ L0 ds O k kx, S ds O k kx →
      Tx (Bx P w K mg base N qual st f cdv A outer s H E) L0 (fun C fds _ O' => kx C fds O') →
      WSsx (Bx P w K mg base N qual st f cdv A outer s H E) L0 (defBody st) (gst N.length ds) O { nx := fun _ O' => Ret k .non O', rt := Ret k }) : FnG P w K mg base (L2.CX P w) (j + 1) f fd ps (spOf K S) := by
  refine FnG.body F Sc (fun vs H Q E ⟨ds, L, O, k, kx, hi, _, hs, _⟩ => hi.length.trans (len ds O k kx hs)) fun cdv A outer s H vs Q E hg hr hsp => ?_
  obtain ⟨ds, L, O, k, kx, hi, hR, hS, hk, hx⟩ := hsp
  have tx : Tx (Bx P w K mg base N qual st f cdv A outer s H E) L (fun C fds _ O' => kx C fds O') :=
    ⟨⟨fun cls d _ H => E cls d H, takes_of rfl rfl rfl rfl, fun C d fs fds Γ O' σ L' H' a le _ b c e r => hx C d fs fds O' L' H' a le b c e r⟩⟩
  have z := h cdv A outer s H E hg hr L ds O k kx hS tx (start N vs) L H (.refl L) (sl_start hi) hR { nx := fun _ H' => Q .non H', rt := Q }
    ⟨fun Γ' O' σ' L' H' a le _ r => fol_ret hk .non .non O' L' H' a le .non r, fol_ret hk, fun _ _ _ _ _ a => a.elim, fun _ _ _ _ _ a => a.elim⟩
  exact fun pins s' I => z pins s' I
/-- a class whose __init__ may raise -/
structure PcX (P : Program) (w : World) (K : PySem.W.Frag) (mg : Str → Option Value) (base : Heap) (x : Str) (C : Addr) (j : Nat) (S : SpD) : Prop where
  ex : ∃ (f : Addr) (fd : FuncData) (ps : List Str), FnG P w K mg base (L2.CX P w) j f fd ps (spOf K S) ∧ Mk K C f ∧ Binds K fd ps []
  mg : mg x = some (.ref C)
theorem PcX.of {x : Str} {C : Addr} {qual : Str} {st : Stmt} {N ps : List Str} {j : Nat} {S : SpD} (T : Di K C qual st ps) (hx : mg x = some (.ref C)) (Sc : FnScope N ps (defScope st)) (len : ∀ ds O k kx, S ds O k kx → ds.length = ps.length)
    (h : ∀ (f : Addr) (cdv : Value) (A : Around) (outer : List Env) (s : Shared) (H : Hp) (E : XK), A.guards = some [] → Room j (A.deeper (envOfC qual (defScope st) s.heap.objs.size f cdv)) → ∀ L0 ds O k kx, S ds O k kx →
      Tx (Bx P w K mg base N qual st f cdv A outer s H E) L0 (fun C fds _ O' => kx C fds O') →
      WSsx (Bx P w K mg base N qual st f cdv A outer s H E) L0 (defBody st) (gst N.length ds) O { nx := fun _ O' => Ret k .non O', rt := Ret k }) : PcX P w K mg base x C (j + 1) S := by
  obtain ⟨f, fd, hm, F, hb⟩ := T.ex
  exact ⟨⟨f, fd, ps, fn_bodyX F Sc len (h f), hm, hb⟩, hx⟩
/-- a def that may raise -/
structure PmX (P : Program) (w : World) (K : PySem.W.Frag) (mg : Str → Option Value) (base : Heap) (x : Str) (j : Nat) (S : SpD) : Prop where
  ex : ∃ (f : Addr) (fd : FuncData) (ps : List Str), FnG P w K mg base (L2.CX P w) j f fd ps (spOf K S) ∧ mg x = some (.ref f) ∧ PySem.W.keepIn K (.ref f) = true ∧ Binds K fd ps []
theorem PmX.of {x : Str} {st : Stmt} {N ps : List Str} {j : Nat} {S : SpD} (T : Df K mg x st ps) (Sc : FnScope N ps (defScope st)) (len : ∀ ds O k kx, S ds O k kx → ds.length = ps.length)
    (h : ∀ (f : Addr) (cdv : Value) (A : Around) (outer : List Env) (s : Shared) (H : Hp) (E : XK), A.guards = some [] → Room j (A.deeper (envOfC x (defScope st) s.heap.objs.size f cdv)) → ∀ L0 ds O k kx, S ds O k kx →
      Tx (Bx P w K mg base N x st f cdv A outer s H E) L0 (fun C fds _ O' => kx C fds O') →
      WSsx (Bx P w K mg base N x st f cdv A outer s H E) L0 (defBody st) (gst N.length ds) O { nx := fun _ O' => Ret k .non O', rt := Ret k }) : PmX P w K mg base x (j + 1) S := by
  obtain ⟨f, fd, hm, F, hb, kp⟩ := T.ex
  exact ⟨f, fd, ps, fn_bodyX F Sc len (h f), hm, kp, hb⟩
end
section
variable {X : Cx} {L0 : Lg} {kg : KG} {Γ : Sg} {O : Ow} {k : KD} {De : DE} {e : Expr} {es : List Expr}
theorem fol_fz {K : PySem.W.Frag} {L : Lg} {Q : VK} (q : Fol K L k Q) : Fol K L (Fz k) Q := fun v d O' L' H' ⟨p, od, hd, ho, hk⟩ le i r => by
  subst hd
  obtain ⟨L2, le2, is, r2⟩ := r.freeze ho
  obtain rfl := i.own'
  exact q _ _ _ _ _ hk (le.trans le2) is r2
/-- the class at C, its __init__ may raise -/
structure KcX (X : Cx) (x : Str) (C : Addr) (j : Nat) (S : SpD) : Prop where
  ex : ∃ (f : Addr) (fd : FuncData) (ps : List Str), FnG X.prog X.w X.K X.mg X.base (L2.CX X.prog X.w) j f fd ps (spOf X.K S) ∧ Mk X.K C f ∧ Binds X.K fd ps []
  mg : X.mg x = some (.ref C)
  gl : Gl X x
  db : (x == ("__debug__" : Str)) = false
theorem PcX.kc {P : Program} {w : World} {K : PySem.W.Frag} {mg : Str → Option Value} {base : Heap} {x : Str} {C : Addr} {j : Nat} {S : SpD} (F : PcX P w K mg base x C j S) {X : Cx} (e1 : X.prog = P) (e2 : X.w = w) (e3 : X.K = K) (e4 : X.mg = mg) (e5 : X.base = base) (gl : Gl X x) (db : (x == ("__debug__" : Str)) = false) : KcX X x C j S := by
  subst e1 e2 e3 e4 e5
  exact ⟨F.ex, F.mg, gl, db⟩
theorem we_makeX {x : Str} {C : Addr} {j : Nat} {S : SpD} {p pos : Pos} (F : KcX X x C j S) (tx : Tx X L0 kg) (hgd : X.A.guards = some []) (hr : Room (j + 1) X.A) (he : starEach (e :: es) X.env = (false, eval e X.env) :: starEach es X.env) (hpl : (backTo pos (starEach es X.env)).any (·.1) = false)
    (h : WA X (e :: es) Γ O fun ds O1 => ∀ p, O1 p = none → S (.own p :: ds) (put O1 p (.ins C [])) (fun d O2 => d = .non ∧ Fz k (.own p) O2) fun Ce fds O2 => ∃ O3, Sub O3 O2 ∧ kg Ce fds Γ O3) : WEx X L0 (.Call (.Name x p) (e :: es) [] pos) Γ O k := fun σ L H l0 hs hR Q q0 pins s I => by
  have q := fol_fz q0
  obtain ⟨W, tk, tw⟩ := tx.ex
  obtain ⟨f, fd, ps, G, M, hb⟩ := F.ex
  refine wpAny_Call_Name_kw (ld_glob I F.gl F.mg ?_ F.db)
  refine PySem.W.callWith_K (h₀ := X.base) I.ok.mod.kin M.kp (thn (h σ L H hs hR (fun vs H1 => ∃ ds O1 L1, (∀ p, O1 p = none → S (.own p :: ds) (put O1 p (.ins C [])) (fun d O2 => d = .non ∧ Fz k (.own p) O2) fun Ce fds O2 => ∃ O3, Sub O3 O2 ∧ kg Ce fds Γ O3) ∧ L.le L1 ∧ IsL X.K L1 vs ds ∧ R X.K L1 O1 H1) (fun vs ds O1 L1 H1 a b c d => ⟨ds, O1, L1, a, b, c, d⟩) pos pins s I)
    fun us s1 ⟨vs, H1, I1, rv, ds, O1, L1, h1, le1, is1, r1⟩ => ⟨I1.kIn, ?_⟩) he hpl
  have n1 : H1 (s1.heap.objs.size + 1) = none := I1.hok.fresh (Nat.le_succ _)
  have n2 : H1 s1.heap.objs.size = none := I1.hok.fresh (Nat.le_refl _)
  have ne : s1.heap.objs.size + 1 ≠ s1.heap.objs.size := Nat.succ_ne_self _
  have I2 := Inv.made (C := C) I1
  have ra := r1.aside (o := .own (s1.heap.objs.size + 1)) n2
  have n3 : upd H1 s1.heap.objs.size (.own (s1.heap.objs.size + 1)) (s1.heap.objs.size + 1) = none := by rw [upd_ne ne]; exact n1
  have rb := ra.newOwn (p := s1.heap.objs.size + 1) (o := .ins C s1.heap.objs.size []) (od := .ins C []) n3 ⟨_, [], upd_same, rfl, .nil⟩
  have sp : spOf X.K S (V.ref (s1.heap.objs.size + 1) :: vs) _ (fun v H2 => v = .non ∧ Q (.ref (s1.heap.objs.size + 1)) H2) (fun cls d H => W cls d σ H) :=
    ⟨_, L1, _, _, _, .cons (.own (s1.heap.objs.size + 1)) is1, rb, h1 _ (ra.free n3).2.1, fun v d O2 L2 H2 ⟨hd, hk⟩ le2 i2 r2 => by
      subst hd
      exact ⟨i2.non', q _ _ _ _ _ hk (le1.trans le2) (.own _) r2⟩, fun Ce d fs fds O2 L2 H2 ⟨O3, sub, hk⟩ le2 a b c r2 =>
      tw Ce d fs fds Γ O3 σ L2 H2 hk (l0.trans (le1.trans le2)) (hs.mono (le1.trans le2)) a b c (r2.sub sub)⟩
  have r2 : Vals (V.ref (s1.heap.objs.size + 1) :: vs) (Value.ref (s1.heap.objs.size + 1) :: us) := .cons rfl rv
  have hl : (Value.ref (s1.heap.objs.size + 1) :: us ++ []).length = ps.length := by
    rw [List.append_nil, ← r2.length]; exact G.ln _ _ _ _ sp
  refine wpAny_call (make_map (f := f) I1.kIn M.makes M.init (beq_iff_eq.mp M.fn) (codeAny_mono (G.go _ X.stack _ _ ⟨Value.ref (s1.heap.objs.size + 1) :: us, []⟩ (Value.ref (s1.heap.objs.size + 1) :: us ++ []) _ _ _ (make_guards hgd) (hr.make C us []) (I2.env0.make C us []) (hb _ _ I2.kIn hl) (by rw [List.append_nil]; exact r2) sp) fun r s' hq => ?_))
  match r, hq with
  | .ok (.ret u), hq =>
    obtain ⟨v, H', I3, rv', ev, q3⟩ := I2.after hq
    subst ev
    exact ⟨rv', ⟨V.ref (s1.heap.objs.size + 1), H', I3, rfl, q3⟩⟩
  | .ok .next, hq => exact hq.elim
  | .ok .brk, hq => exact hq.elim
  | .ok .cont, hq => exact hq.elim
  | .error e, hq => exact tk _ _ (XE.of_call I2 (fun _ _ _ h => h) hq)
end
/-! ### what is caught -/
theorem R.addXd {K : PySem.W.Frag} {L : Lg} {O : Ow} {H : Hp} {dd : Addr} {fs : List (Str × V)} (r : R K L O H) (h : H dd = some (.xd fs)) : ∃ L' : Lg, L.le L' ∧ L'.hp dd = some (.xd fs) ∧ R K L' O H := by
  cases q : L.hp dd with
  | some u =>
    have e := r.hp _ _ q
    rw [h] at e
    cases e
    exact ⟨L, .refl L, q, r⟩
  | none =>
    refine ⟨L.add dd (.xd fs), Lg.le_add q, ?_, fun a u e => ?_, fun a k z => ?_, fun a od e => ?_⟩
    · show (L.add dd (.xd fs)).hp dd = _
      simp [Lg.add, upd_same]
    · by_cases c : a = dd
      · subst c
        simp [Lg.add, upd_same] at e
        rw [h, e]
      · have e2 : L.hp a = some u := by simpa [Lg.add, upd_ne c] using e
        exact r.hp _ _ e2
    · obtain ⟨h1, h2, h3⟩ := r.bx a k z
      have c : a ≠ dd := fun q => by
        rw [q, h] at h3
        cases k with
        | three => obtain ⟨_, _, _, e⟩ := h3; cases e
        | nums => obtain ⟨_, _, _, e⟩ := h3; cases e
        | pair b => obtain ⟨_, _, e⟩ := h3; cases e
      exact ⟨by simpa [Lg.add, upd_ne c] using h1, h2, h3⟩
    · obtain ⟨h1, h2⟩ := r.ow a od e
      have c : a ≠ dd := fun q => by
        subst q
        cases od with
        | lst ds => obtain ⟨_, z, _⟩ := h2; rw [h] at z; cases z
        | dic ds => obtain ⟨_, z, _⟩ := h2; rw [h] at z; cases z
        | ins C ds => obtain ⟨_, _, z, _⟩ := h2; rw [h] at z; cases z
        | tab q => obtain ⟨_, z, _⟩ := h2; rw [h] at z; cases z
        | xcp C d =>
          have z : H a = some (XO C d a) := h2
          rw [h] at z
          have z2 : HO.xd fs = HO.ext _ := Option.some.inj z
          cases z2
        | opq φ =>
          have z : H a = some (HO.ext φ) := h2
          rw [h] at z
          have z2 : HO.xd fs = HO.ext φ := Option.some.inj z
          cases z2
      exact ⟨by simpa [Lg.add, upd_ne c] using h1, h2.mono (Lg.le_add q) rfl⟩
theorem Sl.setN {K : PySem.W.Frag} {L : Lg} {σ : L2.St} {Γ : Sg} (h : Sl K L σ Γ) (i : Nat) : Sl K L (σ.set i none) (Γ.set i none) := by
  refine ⟨by rw [List.length_set, List.length_set]; exact h.len, fun j e z => ?_⟩
  by_cases c : i = j
  · subst c
    by_cases hl : i < Γ.length
    · rw [List.getElem?_set_self hl] at z; cases z
    · rw [List.getElem?_eq_none (by rw [List.length_set]; omega)] at z; cases z
  · rw [List.getElem?_set_ne c] at z ⊢
    exact h.at_ j e z
section
variable {X : Cx} {L0 : Lg} {Γ : Sg} {O : Ow} {k : KD} {De : DE}
/-- the ends behind an except suite: the name goes -/
def DE.gone (De : DE) (i : Nat) : DE := { nx := fun Γ2 O2 => De.nx (Γ2.set i none) O2, rt := De.rt, bk := fun Γ2 O2 => De.bk (Γ2.set i none) O2, ct := fun Γ2 O2 => De.ct (Γ2.set i none) O2 }
theorem fol_gone {K : PySem.W.Frag} {L : Lg} {E : Ends} (q : FolS K L De E) (i : Nat) : FolS K L (De.gone i) { nx := fun σ' H' => E.nx (σ'.set i none) H', rt := E.rt, bk := fun σ' H' => E.bk (σ'.set i none) H', ct := fun σ' H' => E.ct (σ'.set i none) H' } :=
  ⟨fun Γ2 O2 σ2 L2 H2 a le s r => q.nx _ _ _ _ _ a le (s.setN i) r, q.rt, fun Γ2 O2 σ2 L2 H2 a le s r => q.bk _ _ _ _ _ a le (s.setN i) r, fun Γ2 O2 σ2 L2 H2 a le s r => q.ct _ _ _ _ _ a le (s.setN i) r⟩
/-- try: body / except x as n: suite; kg: what the body may let out, all of it caught -/
theorem ws_tryAs {x n : Str} {c : Value} {i : Nat} {body suite : List Stmt} {b₀ : Stmt} {np pos pos' : Pos} (kg : KG) (hs : X.stack = X.env :: X.outer) (hf : X.env.frame = some X.env.locals) (hN : X.N.Nodup) (hi : X.N[i]? = some n) (hln : X.env.kindOf n = some .local) (hc : Names X x c)
    (hb : ∀ (L0 : Lg) (pn : List (Addr × Obj)) (xe : Value → Shared → Prop), PassesOwn (model X.prog X.w) X.A X.env xe → Tx (X.tr pn xe) L0 kg → WSsx (X.tr pn xe) L0 body Γ O De)
    (hh : ∀ C fds Γ' O', kg C fds Γ' O' → PySem.W.exmOne X.K (.ref C) c = some true ∧ ∀ (a dd : Addr) (oe : Obj) (pn : List (Addr × Obj)), Zc (.ref C) (some dd) oe → (∃ vs, oe.data = .fields vs) →
      WSs (X.suite a ((a, oe) :: pn)) (b₀ :: suite) (Γ'.set i (some (.exc a dd fds))) O' (De.gone i)) :
    WS X (.Try body [.ExceptHandler (some (.Name x np)) (some n) (b₀ :: suite) pos'] [] [] pos) Γ O De := fun σ L H hsl hr E q => by
  let tb : WX → TS := fun W D σ H => ∀ (pn : List (Addr × Obj)) (xe : Value → Shared → Prop), Takes (X.tr pn xe) W → PassesOwn (model X.prog X.w) X.A X.env xe → uSs (X.tr pn xe) body D σ H
  let ts : Addr → Value → Option Addr → TS := fun a cls d D σ H => ∀ (oe : Obj) (pn : List (Addr × Obj)), Zc cls d oe → (∃ vs, oe.data = .fields vs) → uSs (X.suite a ((a, oe) :: pn)) (b₀ :: suite) D σ H
  refine toS (ps_try_as (tb := tb) (ts := ts) (Wout := fun _ _ _ _ => False) hs hf hN hi hln hc (fun u s' ⟨_, _, _, _, _, _, _, _, _, _, _, _, _, _, _, _, w⟩ => w.elim)
    (fun W pn xe tk po => ⟨fun pins s σ H D I h => h pn xe tk po pins s I⟩) (fun a oe cls d pn hz hv => ⟨fun pins s σ H D I h => h oe pn hz hv pins s I⟩)) ?_
  intro pn xe tk po
  have tx : Tx (X.tr pn xe) L kg := ⟨⟨_, tk, fun C d fs fds Γ' O' σ' L' H' hk le hsl' hd e1 e2 r => by
    obtain ⟨z1, z2⟩ := hh C fds Γ' O' hk
    refine ⟨true, z1, fun _ a ha oe pn' hz hv => ?_, fun z => by cases z⟩
    obtain ⟨L2, le2, hx, r2⟩ := R.addXd r hd
    exact z2 a d oe pn' hz hv (σ'.set i (some (.ref a))) L2 H' ((hsl'.mono le2).set (.exc hx e1 (e2.mono le2)) i) r2 _ (fol_gone (q.le (le.trans le2)) i)⟩⟩
  exact hb L pn xe po tx σ L H (.refl L) hsl hr E q
/-- e.f of the caught exception -/
theorem we_xf {a C dd : Addr} {oe : Obj} {pn : List (Addr × Obj)} {e : Expr} {f : Str} {fds : List (Str × D)} {y : D} {pos : Pos} (T : XfC X.K C) (hno : PySem.W.findIn X.K (.ref C) f = some none) (hz : Zc (.ref C) (some dd) oe) (hv : ∃ vs, oe.data = .fields vs)
    (hl : fds.lookup f = some y) (hb : attributeBase e f (X.suite a ((a, oe) :: pn)).env (eval e (X.suite a ((a, oe) :: pn)).env) = eval e (X.suite a ((a, oe) :: pn)).env)
    (h : WE (X.suite a ((a, oe) :: pn)) e Γ O fun x O1 => x = .exc a dd fds ∧ k y O1) : WE (X.suite a ((a, oe) :: pn)) (.Attribute e f pos) Γ O k := fun σ L H hs hr Q q => by
  refine toE (pe_xf (X := X) (a := a) (pn := pn) T hno hz hv (pu e) hb) ?_
  refine h σ L H hs hr _ fun v x O1 L1 H1 h1 e1 i1 r1 => ?_
  obtain ⟨ex, h2⟩ := h1
  subst ex
  obtain ⟨fs, rfl, hd, e2, e3⟩ := i1.exc'
  obtain ⟨w, g1, g2⟩ := (lookup_is e2 e3).1 y hl
  exact ⟨rfl, rfl, dd, fs, w, rfl, r1.hp _ _ hd, g1, q _ _ _ _ _ h2 e1 g2 r1⟩
/-- isinstance(e, P), P a class -/
theorem wc_isiX {a C dd P : Addr} {oe : Obj} {pn : List (Addr × Obj)} {fds : List (Str × D)} {b : Bool} (T : ExcC X.K C) (hz : Zc (.ref C) (some dd) oe) (hv : ∃ vs, oe.data = .fields vs) (hk : PySem.W.kitOne X.K (.ref C) (.ref P) = some b)
    (h : k (.bl b) O) : WC (X.suite a ((a, oe) :: pn)) (.builtin "isinstance") [.exc a dd fds, .own P] O k := fun vs L H is hr Q q => by
  obtain ⟨v, u, rfl, i1, i2⟩ := is.two'
  obtain ⟨fs, rfl, hd, e1, e2⟩ := i1.exc'
  obtain rfl := i2.own'
  have fin : Q (.bl b) H := q _ _ _ _ _ h (.refl L) (.bl _) hr
  intro pins s σ us I rx
  cases rx with
  | cons r1 t1 =>
    cases t1 with
    | cons r2 t2 =>
      cases t2
      cases r1
      cases r2
      obtain ⟨ha, _⟩ := I.pin (a, oe) (List.mem_append_left _ List.mem_cons_self)
      obtain ⟨ws, hws⟩ := hv
      have hx : ObjOk X.prog X.w H s.heap dd (.xd fs) := I.hok dd _ (hr.hp _ _ hd)
      obtain ⟨mA, hns, _⟩ := hx
      obtain ⟨od, ho, _⟩ := lookIn_ns hns
      have J : PySem.W.InstAt s.heap a oe C (some od) := ⟨ha, hz.1, by unfold PySem.W.notCls; rw [hws] <;> rfl, by rw [hz.2]; exact ho⟩
      have hcl : (PySem.W.clsIn X.K C).isSome = true := by
        obtain ⟨cd, hc, _⟩ := PySem.W.any_some T.hd
        rw [hc]; rfl
      exact PySem.W.kia_one (PySem.W.kitx_exc hcl T.hg T.hk T.hs T.ha T.hn T.ht T.hm) I.kIn J hk (fun z => nomatch z) fun tk => ⟨.bl b, H, I.kept (t' := tk) fun _ _ z => z, rfl, fin⟩
theorem ex_ifExp {c a b : Expr} {pos : Pos} (h : WT X c Γ O fun t O1 => if t = true then WEx X L0 a Γ O1 k else WEx X L0 b Γ O1 k) : WEx X L0 (.IfExp c a b pos) Γ O k := fun σ L H l0 hs hr Q q => by
  refine toE (pe_ifExp (ptu c) (pu a) (pu b)) ?_
  refine h σ L H hs hr _ fun t O1 L1 H1 h1 e1 r1 => ?_
  cases t with
  | true =>
    have h2 : WEx X L0 a Γ O1 k := h1
    exact iteT (h2 σ L1 H1 (l0.trans e1) (hs.mono e1) r1 Q (q.le e1))
  | false =>
    have h2 : WEx X L0 b Γ O1 k := h1
    exact iteF (h2 σ L1 H1 (l0.trans e1) (hs.mono e1) r1 Q (q.le e1))
end
end DL
/-! DL, part R: repr of an owned list, a slot that is frozen, classes made with defaults -/
namespace DL
open L2 PySem
open PySem.Spec PyProof.Rows
section
variable {X : Cx} {L0 : Lg} {kg : KG} {Γ : Sg} {O : Ow} {k : KD} {De : DE} {st : List Stmt} {e : Expr} {es : List Expr}
theorem wc_reprO {p : Addr} {ds : List D} (ho : O p = some (.lst ds)) (hg : X.A.guards = some []) (hu : X.A.units + 64 < cLine) (hp : (D.lst ds).isPy = true) (hs : (D.lst ds).py.showable = true) (hd : (D.lst ds).py.depth ≤ 60) (hz : (D.lst ds).py.shown.length ≤ sizeLine) (h : k (.str (D.lst ds).py.shown) O) : WC X (.builtin "repr") [.own p] O k := fun vs L H is hr Q q => by
  obtain ⟨v, rfl, i⟩ := is.one'
  obtain rfl := i.own'
  obtain ⟨xs, h1, h2⟩ := own_lst hr ho
  have dp : Dp X.K H (.ref p) (D.lst ds).py := .lst (.inl (.inl h1)) (IsL.dp hr h2 (by simpa [D.isPy] using hp))
  have fin : Q (.str (D.lst ds).py.shown) H := q _ _ _ _ _ h (.refl L) (.str _) hr
  intro pins s σ us I rx
  obtain ⟨u, rfl, r1⟩ := Vals.one rx
  obtain ⟨as, rd⟩ := Dp.reads I _ _ u dp r1
  cases r1
  refine repr_of_reads' rd hs (PyData.noDict_hsm (py_noDict hp)) hg (by omega) (fun _ _ z => z) (fun h' t tk kp => ?_) hz
  exact ⟨.str (D.lst ds).py.shown, H, I.kept (t' := tk) kp, ⟨t, rfl⟩, fin⟩
theorem wss_frz {i : Nat} {p : Addr} {od : OD} (ho : O p = some od) (hg : Γ[i]? = some (some (.own p))) (h : WSs X st (Γ.set i (some od.d)) (del O p) De) : WSs X st Γ O De := fun σ L H hs hr E q => by
  obtain ⟨L', le, is, r'⟩ := hr.freeze ho
  obtain ⟨v, e, z⟩ := hs.at_ i _ hg
  obtain rfl := z.own'
  have hs' : Sl X.K L' σ (Γ.set i (some od.d)) := ⟨by rw [List.length_set]; exact hs.len, fun j d hd => by
    by_cases c : i = j
    · subst c
      have hl : i < Γ.length := (List.getElem?_eq_some_iff.mp hg).1
      rw [List.getElem?_set_self hl] at hd
      cases hd
      exact ⟨.ref p, e, is⟩
    · rw [List.getElem?_set_ne c] at hd
      exact (hs.mono le).at_ j d hd⟩
  exact h σ L' H hs' r' E (q.le le)
/-- the class at C, the last arguments by default -/
structure KcD (X : Cx) (x : Str) (C : Addr) (j : Nat) (S : SpD) (dds : List D) : Prop where
  ex : ∃ (f : Addr) (fd : FuncData) (ps : List Str) (dvs : List V) (dus : List Value), FnG X.prog X.w X.K X.mg X.base (L2.CX X.prog X.w) j f fd ps (spOf X.K S) ∧ Mk X.K C f ∧ Vals dvs dus ∧ (∀ L, IsL X.K L dvs dds) ∧ L2.Binds X.K fd ps dus
  mg : X.mg x = some (.ref C)
  gl : Gl X x
  db : (x == ("__debug__" : Str)) = false
theorem make_runD {x : Str} {C : Addr} {j : Nat} {S : SpD} {dds : List D} (F : KcD X x C j S dds) (hn : ∀ e s, ¬ X.xe e s → True) (hgd : X.A.guards = some []) (hr : Room (j + 1) X.A) {pins : List (Addr × Obj)} {σ : L2.St} {H1 : Hp} {s1 : Shared} {us : List Value} {vs : List V} {ds : List D} {O1 : Ow} {L1 : Lg} {Q : VK}
    (I1 : Inv X pins σ H1 s1) (rv : Vals vs us) (is1 : IsL X.K L1 vs ds) (r1 : R X.K L1 O1 H1) (q : Fol X.K L1 (Fz k) Q)
    (h1 : ∀ p, O1 p = none → S (.own p :: (ds ++ dds)) (put O1 p (.ins C [])) (fun d O2 => d = .non ∧ Fz k (.own p) O2) fun _ _ _ => False) : wpAny (model X.prog X.w) X.A (call (.ref C) us) (EP X pins σ Q) X.xe s1 := by
  obtain ⟨f, fd, ps, dvs, dus, G, M, dr, dd, hb⟩ := F.ex
  have n1 : H1 (s1.heap.objs.size + 1) = none := I1.hok.fresh (Nat.le_succ _)
  have n2 : H1 s1.heap.objs.size = none := I1.hok.fresh (Nat.le_refl _)
  have ne : s1.heap.objs.size + 1 ≠ s1.heap.objs.size := Nat.succ_ne_self _
  have I2 := Inv.made (C := C) I1
  have ra := r1.aside (o := .own (s1.heap.objs.size + 1)) n2
  have n3 : upd H1 s1.heap.objs.size (.own (s1.heap.objs.size + 1)) (s1.heap.objs.size + 1) = none := by rw [upd_ne ne]; exact n1
  have rb := ra.newOwn (p := s1.heap.objs.size + 1) (o := .ins C s1.heap.objs.size []) (od := .ins C []) n3 ⟨_, [], upd_same, rfl, .nil⟩
  have sp : spOf X.K S (V.ref (s1.heap.objs.size + 1) :: (vs ++ dvs)) _ (fun v H2 => v = .non ∧ Q (.ref (s1.heap.objs.size + 1)) H2) (fun _ _ _ => False) :=
    ⟨_, L1, _, _, _, .cons (.own (s1.heap.objs.size + 1)) (is1.append (dd L1)), rb, h1 _ (ra.free n3).2.1, fun v d O2 L2 H2 ⟨hd, hk⟩ le2 i2 r2 => by
      subst hd
      exact ⟨i2.non', q _ _ _ _ _ hk le2 (.own _) r2⟩, fun _ _ _ _ _ _ _ z => z.elim⟩
  have r2 : Vals (V.ref (s1.heap.objs.size + 1) :: (vs ++ dvs)) (Value.ref (s1.heap.objs.size + 1) :: us ++ dus) := .cons rfl (rv.append dr)
  have hl : (Value.ref (s1.heap.objs.size + 1) :: us ++ dus).length = ps.length := by
    rw [← r2.length]; exact G.ln _ _ _ _ sp
  refine wpAny_call (make_map (f := f) I1.kIn M.makes M.init (beq_iff_eq.mp M.fn) (codeAny_mono (G.go _ X.stack _ _ ⟨Value.ref (s1.heap.objs.size + 1) :: us, []⟩ (Value.ref (s1.heap.objs.size + 1) :: us ++ dus) _ _ _ (make_guards hgd) (hr.make C us []) (I2.env0.make C us []) (hb _ _ I2.kIn hl) r2 sp) fun r s' hq => ?_))
  match r, hq with
  | .ok (.ret u), hq =>
    obtain ⟨v, H', I3, rv', ev, q3⟩ := I2.after hq
    subst ev
    exact ⟨rv', ⟨V.ref (s1.heap.objs.size + 1), H', I3, rfl, q3⟩⟩
  | .ok .next, hq => exact hq.elim
  | .ok .brk, hq => exact hq.elim
  | .ok .cont, hq => exact hq.elim
  | .error e, hq => obtain ⟨_, _, _, _, _, _, _, _, _, _, _, _, z⟩ := hq; exact z.elim
theorem we_makeD {x : Str} {C : Addr} {j : Nat} {S : SpD} {dds : List D} {p pos : Pos} (F : KcD X x C j S dds) (hgd : X.A.guards = some []) (hr : Room (j + 1) X.A) (he : starEach (e :: es) X.env = (false, eval e X.env) :: starEach es X.env) (hpl : (backTo pos (starEach es X.env)).any (·.1) = false)
    (h : WA X (e :: es) Γ O fun ds O1 => ∀ p, O1 p = none → S (.own p :: (ds ++ dds)) (put O1 p (.ins C [])) (fun d O2 => d = .non ∧ Fz k (.own p) O2) fun _ _ _ => False) : WE X (.Call (.Name x p) (e :: es) [] pos) Γ O k := fun σ L H hs hR Q q0 pins s I => by
  have q := fol_fz q0
  obtain ⟨f, fd, ps, dvs, dus, G, M, dr, dd, hb⟩ := F.ex
  refine wpAny_Call_Name_kw (ld_glob I F.gl F.mg ?_ F.db)
  refine PySem.W.callWith_K (h₀ := X.base) I.ok.mod.kin M.kp (thn (h σ L H hs hR (fun vs H1 => ∃ ds O1 L1, (∀ p, O1 p = none → S (.own p :: (ds ++ dds)) (put O1 p (.ins C [])) (fun d O2 => d = .non ∧ Fz k (.own p) O2) fun _ _ _ => False) ∧ L.le L1 ∧ IsL X.K L1 vs ds ∧ R X.K L1 O1 H1) (fun vs ds O1 L1 H1 a b c d => ⟨ds, O1, L1, a, b, c, d⟩) pos pins s I)
    fun us s1 ⟨vs, H1, I1, rv, ds, O1, L1, h1, le1, is1, r1⟩ => ⟨I1.kIn, ?_⟩) he hpl
  exact make_runD F (fun _ _ _ => trivial) hgd hr I1 rv is1 r1 (q.le le1) h1
theorem we_makeD0 {x : Str} {C : Addr} {j : Nat} {S : SpD} {dds : List D} {p pos : Pos} (F : KcD X x C j S dds) (hgd : X.A.guards = some []) (hr : Room (j + 1) X.A)
    (h : ∀ p, O p = none → S (.own p :: ([] ++ dds)) (put O p (.ins C [])) (fun d O2 => d = .non ∧ Fz k (.own p) O2) fun _ _ _ => False) : WE X (.Call (.Name x p) [] [] pos) Γ O k := fun σ L H hs hR Q q0 pins s I => by
  have q := fol_fz q0
  obtain ⟨f, fd, ps, dvs, dus, G, M, dr, dd, hb⟩ := F.ex
  refine wpAny_Call_Name_kw (ld_glob I F.gl F.mg ?_ F.db)
  refine PySem.W.callWith_K0 (first := []) I.kIn M.kp ?_
  exact make_runD F (fun _ _ _ => trivial) hgd hr I .nil .nil hR q h
end
/-- where the class stands, its __init__ with the defaults at T -/
inductive DnD (K : PySem.W.Frag) (C : Addr) (qual : Str) (st : Stmt) (dvs : List V) : Prop where
  | mk {f : Addr} {oc : Value} {od an : Option Addr} {osl : Array (Option Value)} {kV doc pm cdv ct : Value} {T : Addr} {ot : Value} {dt : Option Addr} {its : Array Value} {n : Nat} {stt : Array (Option Value)} (m : PySem.W.makesIn K C = true) (a : PySem.W.findIn K (.ref C) "__init__" = some (some (.ref f))) (i : PySem.W.isFn K (.ref f) = true) (kc : PySem.W.keepIn K (.ref C) = true) (l : K.lookup f = some ⟨oc, od, .func (PySem.W.fnOf "__init__" qual (defArgs st) (defBody st) (defScope st) (.ref T) kV doc pm an cdv ct), osl⟩) (c : PySem.W.codeIn K cdv qual = true)
      (lT : K.lookup T = some ⟨ot, dt, .seq its n, stt⟩) (hz : Vals dvs its.toList) : DnD K C qual st dvs
section
variable {base : Heap} {mg : Str → Option Value} {K : PySem.W.Frag} {w : World} {P : Program}
structure PcD (P : Program) (w : World) (K : PySem.W.Frag) (mg : Str → Option Value) (base : Heap) (x : Str) (C : Addr) (j : Nat) (S : SpD) (dds : List D) : Prop where
  ex : ∃ (f : Addr) (fd : FuncData) (ps : List Str) (dvs : List V) (dus : List Value), FnG P w K mg base (L2.CX P w) j f fd ps (spOf K S) ∧ Mk K C f ∧ Vals dvs dus ∧ (∀ L, IsL K L dvs dds) ∧ L2.Binds K fd ps dus
  mg : mg x = some (.ref C)
theorem PcD.kd {x : Str} {C : Addr} {j : Nat} {S : SpD} {dds : List D} (F : PcD P w K mg base x C j S dds) {X : Cx} (e1 : X.prog = P) (e2 : X.w = w) (e3 : X.K = K) (e4 : X.mg = mg) (e5 : X.base = base) (gl : Gl X x) (db : (x == ("__debug__" : Str)) = false) : KcD X x C j S dds := by
  subst e1 e2 e3 e4 e5
  exact ⟨F.ex, F.mg, gl, db⟩
theorem vals_drop : ∀ (i : Nat) {vs : List V} {us : List Value}, Vals vs us → Vals (vs.drop i) (us.drop i)
  | 0, _, _, h => h
  | _ + 1, _, _, .nil => .nil
  | n + 1, _, _, .cons _ t => vals_drop n t
theorem PcD.of {x : Str} {C : Addr} {qual : Str} {st : Stmt} {N ps : List Str} {j : Nat} {S : SpD} {dvs : List V} {dds : List D} (T : DnD K C qual st dvs) (hx : mg x = some (.ref C)) (Sc : FnScope N ps (defScope st)) (len : ∀ ds O k kx, S ds O k kx → ds.length = ps.length)
    (h : ∀ (f : Addr) (cdv : Value) (A : Around) (outer : List Env) (s : Shared) (H : Hp) (E : XK), A.guards = some [] → Room j (A.deeper (envOfC qual (defScope st) s.heap.objs.size f cdv)) → ∀ L0 ds O k kx, S ds O k kx →
      Tx (Bx P w K mg base N qual st f cdv A outer s H E) L0 (fun C fds _ O' => kx C fds O') →
      WSsx (Bx P w K mg base N qual st f cdv A outer s H E) L0 (defBody st) (gst N.length ds) O { nx := fun _ O' => Ret k .non O', rt := Ret k }) (i : Nat) (hd : ∀ L, IsL K L (dvs.drop i) dds)
    (b : ∀ (T : Addr) (its : Array Value) (kV doc pm : Value) (an : Option Addr) (cdv ct : Value) (us : List Value), its.toList.length = dvs.length → (us ++ its.toList.drop i).length = ps.length → ∃ k, bindArgs (PySem.W.fnOf "__init__" qual (defArgs st) (defBody st) (defScope st) (.ref T) kV doc pm an cdv ct) ⟨us, []⟩ = seqItems? (.ref T) >>= k ∧ k (some its) = pure (ps.zip (us ++ its.toList.drop i))) : PcD P w K mg base x C (j + 1) S dds := by
  cases T with
  | mk m a i2 kc l c lT hz =>
    refine ⟨⟨_, _, ps, dvs.drop i, _, fn_bodyX (funx_mk l c) Sc len (h _), ⟨m, a, i2, kc⟩, vals_drop i hz, hd, fun s us X hl => ?_⟩, hx⟩
    obtain ⟨k, e1, e2⟩ := b _ _ _ _ _ _ _ _ us (hz.length.symm) hl
    refine L2.BindsTo.of_looks fun M => ?_
    rw [e1]
    exact L2.looks_items X lT rfl (.of_pure e2)
end
end DL
/-! DL, part S: own comparisons, str of an instance -/
namespace DL
open PySem PySem.Spec PyProof.Rows L2 ClX
section
variable {X : Cx} {pins : List (Addr × Obj)} {σ : L2.St} {H : Hp} {s : Shared} {Q : VK} {A : Around}
/-- a call of a def where A is some builtin's inside -/
theorem run_gA {us : List Value} {vs : List V} {j : Nat} {f : Addr} {fd : FuncData} {ps : List Str} {sp : Sp} (G : FnG X.prog X.w X.K X.mg X.base CX0 j f fd ps sp) (hgd : A.guards = some []) (hr : Room j A) (e0 : Env0 X.prog X.w X.K X.mg X.base A X.stack s H) (hb : Binds X.K fd ps [])
    (I : Inv X pins σ H s) (r : Vals vs us) (h : sp vs H Q E0) : wpAny (model X.prog X.w) A (call (.ref f) us) (EP X pins σ Q) X.xe s := by
  have hl : (us ++ []).length = ps.length := by rw [List.append_nil, ← r.length]; exact G.ln _ _ _ _ h
  refine wpAny_call (codeAny_mono (G.go A X.stack s H ⟨us, []⟩ (us ++ []) vs Q E0 hgd hr e0 (hb s us I.kIn hl) (by rw [List.append_nil]; exact r) h) fun r s' hq => ?_)
  cases r with
  | error e => exact
        False.elim hq
  | ok fl =>
    cases fl with
    | ret u => exact I.after hq
    | next => exact False.elim hq
    | brk => exact False.elim hq
    | cont => exact False.elim hq
theorem cmp_back {u : Value} {s' : Shared} {Q : Value → Shared → Prop} {v : V} (r : RelV v u) (h : Q u s') : PySem.W.CmpBack Q u s' := by
  cases v <;> first | (cases r; exact h) | (obtain ⟨t, rfl⟩ := r; exact h)
end
section
variable {prog : Program} {w : World} {A : Around} {E : Value → Shared → Prop} {s : Shared} {K : PySem.W.Frag} {x C f L : Addr} {ox : Obj} {od : Option Obj} {b tb : Value}
/-- != by the own == -/
theorem ne_low {Q : Value → Shared → Prop} (hu : A.units + 1 < cLine) (KX : K.In s.heap) (I : PySem.W.InstAt s.heap x ox C od) (hb : PySem.W.Looks (model prog w) s.heap (typeOf b) tb) (hn : PySem.W.notFirst K C tb = true)
    (hne : PySem.W.findIn K (.ref C) "__ne__" = some (some (.builtin "object.__ne__"))) (hob : PySem.W.mroIn K C (.type "object") = some true) (hs : PySem.W.findIn K (.ref C) "__eq__" = some (some (.ref f))) (hf : PySem.W.isFn K (.ref f) = true)
    (h : wpAny (model prog w) A.in1 (call (.ref f) [.ref x, b]) (fun v s' => ∃ r, v = .bool r ∧ Q (.bool (!r)) s') E s) : wpAny (model prog w) A (richCompare .NotEq (.ref x) b) Q E s := by
  have body : wpAny (model prog w) A.in1 (Builtin.«object.__ne__» ⟨[.ref x, b], []⟩) (fun fin s' => ∃ r, fin = .done (.ret (.bool r)) ∧ Q (.bool r) s') E s := by
    unfold
        Builtin.«object.__ne__»
    refine wpAny_bind (m := slotArgs "__ne__" 1 _) (wpAny_pure ?_)
    refine wpAny_bind (m := cRoomFor
        _ _) (wpAny_cRoomFor hu ?_)
    refine wpAny_bind (m := callSpecialIfBound? (.ref x) (Str.ofString "__eq__") [b]) (PySem.W.ifBound_K KX I hs (beq_iff_eq.mp (beq_iff_eq.mpr hf)) (wpAny_mono h (fun v s' hv => ?_) fun _ _ e => e))
    obtain ⟨r, rfl, hq⟩ := hv
    refine wpAny_bind (wpAny_truthy_bool ?_)
    exact wpAny_pure ⟨_, rfl, hq⟩
  have one : wpAny (model prog w) A (tryCompare (.ref x) "__ne__" b) (fun r s' => ∃ v, r = some (.bool v) ∧ Q (.bool v) s') E s := by
    unfold tryCompare
    refine wpAny_bind (NtL.csib (I.type.andThen (PySem.W.looks_findIn KX hne)) (F.cmp_object.ne.bind _) ?_)
    refine wpAny_call (codeAny_call_builtin F.cmp_object.ne.plain F.cmpEntry_ne (PySem.W.check_slot F.cmpKind_ne F.cmpSplit_ne (I.type.andThen (PySem.W.looks_mroIn KX hob)) (F.cmpArgs_ne _ _) (wpAny_mono body (fun fin s' z => ?_) fun _ _ e => e)))
    obtain ⟨r, rfl, hq⟩ := z
    exact wpAny_pure ⟨r, rfl, hq⟩
  -- the right side is of no class below C: the left one is asked first
  have side : (Value.ref C != tb) = true → PySem.W.subIn K tb (.ref C) = some false := fun q => by
    unfold PySem.W.notFirst at hn
    simp only [Bool.or_eq_true, beq_iff_eq] at hn
    rcases hn with z | z
    · subst z
      simp at q
    · exact z
  unfold richCompare
  simp only [oneThing_ref]
  refine wpAny_holding (wpAny_bind (wpAny_cRoomFor (by omega) (wpAny_bind (I.type.here (wpAny_bind (hb.here ?_))))))
  by_cases q : (Value.ref C != tb) = true
  · rw [if_pos q]
    refine wpAny_bind ((PySem.W.looks_subIn KX (side q)).here ?_)
    simp only [Bool.false_eq_true,
        if_false]
    refine wpAny_bind (m := tryCompare (.ref x) _ _) (wpAny_mono one (fun r s' z => ?_) fun _ _ e => e)
    obtain ⟨v, rfl, hq⟩ := z
    exact wpAny_pure hq
  · rw [if_neg q]
    refine wpAny_bind (wpAny_pure
        ?_)
    simp only [Bool.false_eq_true,
        if_false]
    refine wpAny_bind (m := tryCompare (.ref x) _ _) (wpAny_mono one (fun r s' z => ?_) fun _ _ e => e)
    obtain ⟨v, rfl, hq⟩ := z
    exact wpAny_pure hq
end
section
variable {X : Cx} {O : Ow} {k : KD} {C : Addr} {j : Nat} {S : SpD}
/-- two instances of the class at C compared by its own == -/
theorem wo_eqOwn {x y : D} {fds gds : List (Str × D)} (F : Km X C "__eq__" j S) (hgd : X.A.guards = some []) (hr : Room j X.A) (hx : InD O x C fds) (hy : InD O y C gds) (h : S [x, y] O k fun _ _ _ => False) : WO X (compareOp .Eq) x y O k := fun vx vy L H ix iy hR Q q => by
  obtain ⟨a, dx, fs, rfl, ha, _, _⟩ := inD_of hR hx ix
  obtain ⟨b, dy, gs, rfl, hb, _, _⟩ := inD_of hR hy iy
  obtain ⟨f, fd, ps, G, M, bd⟩ := F.ex
  intro pins s σ v u I rx ry
  cases rx
  cases ry
  obtain ⟨mA, J,
      _⟩ := ins_get I.hok ha
  obtain ⟨mB, J', _⟩ := ins_get I.hok hb
  obtain ⟨od, J, _⟩ := J.look
  obtain ⟨od', J',
      _⟩ := J'.look
  obtain ⟨m, hF⟩ := I.fr
  refine PySem.W.cmp_K (op := .Eq) (tb := .ref C) hr.units0 hF I.ok.mod.kin J J'.type (by simp [PySem.W.notFirst]) M.at_ M.fn ?_
  refine wpAny_mono (run_gA (us := [.ref a, .ref b]) (vs := [.ref a, .ref b]) G hgd hr I.env0 bd I (.cons rfl (.cons rfl .nil)) (sp_of h (.cons ix (.cons iy .nil)) hR q)) (fun w s' z => ?_) fun _ _ e => e
  obtain ⟨z', H',
      I', rz, qz⟩ := z
  exact cmp_back rz ⟨z', H', I', rz, qz⟩
theorem wo_neOwn {x y : D} {fds gds : List (Str × D)} (F : Km X C "__eq__" j S) (hne : PySem.W.findIn X.K (.ref C) "__ne__" = some (some (.builtin "object.__ne__"))) (hob : PySem.W.mroIn X.K C (.type "object") = some true) (hgd : X.A.guards = some []) (hr : Room (j + 1) X.A)
    (hx : InD O x C fds) (hy : InD O y C gds) (h : S [x, y] O (fun d O' => ∃ b, d = .bl b ∧ k (.bl (!b)) O') fun _ _ _ => False) : WO X (compareOp .NotEq) x y O k := fun vx vy L H ix iy hR Q q => by
  obtain ⟨a, dx, fs, rfl, ha, _, _⟩ := inD_of hR hx ix
  obtain ⟨b, dy, gs, rfl, hb, _, _⟩ := inD_of hR hy iy
  obtain ⟨f, fd, ps, G, M, bd⟩ := F.ex
  intro pins s σ v u I rx ry
  cases rx
  cases ry
  obtain ⟨mA, J,
      _⟩ := ins_get I.hok ha
  obtain ⟨mB, J', _⟩ := ins_get I.hok hb
  obtain ⟨od, J, _⟩ := J.look
  obtain ⟨od', J',
      _⟩ := J'.look
  refine ne_low (tb := .ref C) (by have := hr.units; omega) I.kIn J J'.type (by simp [PySem.W.notFirst]) hne hob M.at_ M.fn ?_
  refine wpAny_mono (run_gA (A := X.A.in1) (us := [.ref a, .ref b]) (vs := [.ref a, .ref b]) (Q := fun w H' => ∃ r, w = .bl r ∧ Q (.bl (!r)) H') G hgd hr.in1 I.env0.in1 bd I (.cons rfl (.cons rfl .nil)) (sp_of h (.cons ix (.cons iy .nil)) hR (fun v d O' L' H' ⟨r, hd, hk⟩ le i r' => by
    subst hd
    exact ⟨r, i.bl', q _ _ _ _ _ hk le (.bl _) r'⟩))) (fun w s' z => ?_) fun _ _ e => e
  obtain ⟨z', H', I', rz, r, ez, qz⟩ := z
  subst ez
  cases rz
  exact ⟨r, rfl, .bl (!r), H', I', rfl, qz⟩
/-- str(x) by the own __str__ -/
theorem wc_strOwn {x : D} {fds : List (Str × D)} (F : Km X C "__str__" j S) (hgd : X.A.guards = some []) (hr : Room (j + 2) X.A) (hx : InD O x C fds) (h : S [x] O (fun d O' => ∃ z, d = .str z ∧ k (.str z) O') fun _ _ _ => False) : DL.WC X (.type "str") [x] O k := fun vs L H is hR Q q => by
  obtain ⟨vx, rfl, ix⟩ := is.one'
  obtain ⟨a, dx, fs, rfl, ha, _, _⟩ := inD_of hR hx ix
  obtain ⟨f, fd, ps, G, M, bd⟩ := F.ex
  intro pins s σ us I rx
  obtain ⟨u, rfl, r1⟩ := Vals.one rx
  cases r1
  obtain ⟨mA, J,
      _⟩ := ins_get I.hok ha
  obtain ⟨od, J, _⟩ := J.look
  have hr2 : Room j X.A.in1.in1 := (show Room (j + 1) X.A.in1 from hr.in1).in1
  refine PySem.W.kso_call hr2.units0 I.kIn J M.at_ M.fn ?_
  refine wpAny_mono (run_gA (A := X.A.in1.in1) (us := [.ref a]) (vs := [.ref a]) (Q := fun w H' => ∃ z, w = .str z ∧ Q (.str z) H') G hgd hr2 I.env0.in1.in1 bd I (.cons rfl .nil) (sp_of h (.cons ix .nil) hR (fun v d O' L' H' ⟨z, hd, hk⟩ le i r' => by
    subst hd
    exact ⟨z, i.str', q _ _ _ _ _ hk le (.str _) r'⟩))) (fun w s' z => ?_) fun _ _ e => e
  obtain ⟨z', H', I', rz, y, ez, qz⟩ := z
  subst ez
  obtain ⟨t, rfl⟩ := rz
  exact ⟨.str y, H', I', ⟨t, rfl⟩, qz⟩
end
/-! ### classmethods, classes under a local name -/
/-- C.m is a classmethod that keeps a promise; the class itself is its first argument -/
structure Kcm (X : Cx) (C : Addr) (m : Str) (j : Nat) (S : SpD) : Prop where
  ex : ∃ (mc : Value) (p g : Addr) (fd : FuncData) (ps : List Str), CRead X.K C mc ∧ CMet X.K C mc m p g ∧ FnG X.prog X.w X.K X.mg X.base (L2.CX X.prog X.w) j g fd ps (spOf X.K S) ∧ Binds X.K fd ps []
section
variable {X : Cx} {L0 : Lg} {kg : KG} {Γ : Sg} {O : Ow} {k : KD} {C : Addr} {m : Str} {j : Nat} {S : SpD} {o e : Expr} {es : List Expr} {apos pos : Pos} {pl : Sem Bool}
theorem we_cmX (F : Kcm X C m j S) (tx : Tx X L0 kg) (hgd : X.A.guards = some []) (hr : Room j X.A)
    (hst : starEach (e :: es) X.env = (false, eval e X.env) :: starEach es X.env) (hpl : (backTo pos (starEach es X.env)).any (·.1) = false)
    (ht : eval (.Call (.Attribute o m
        apos) (e :: es) [] pos) X.env = (do
      let obj ← eval o X.env
      standAt apos.atName
      let (fn, fst) ← holding [obj] (getMethod obj m pl)
      callWith pos fn fst (backTo pos (starEach (e :: es) X.env)) (backToKw pos (keywordEach [] X.env))))
    (h : WE X o Γ O fun x O1 => x = .own C ∧ WA X (e :: es) Γ O1 fun ds O2 => S (.own C :: ds) O2 k fun Ce fds O3 => ∃ O4, DL.Sub O4 O3 ∧ kg Ce fds Γ O4) : WEx X L0 (.Call (.Attribute o m apos) (e :: es) [] pos) Γ O k := fun σ L H l0 hs hR Q q pins s I => by
  obtain ⟨W, tk, tw⟩ := tx.ex
  obtain ⟨mc, p, g, fd, ps, cr, cm, G, hb⟩ := F.ex
  refine PySem.W.methodCall_KW (pl := pl) (thn (h σ L H hs hR (fun v H1 => ∃ O1 L1, v = .ref C ∧ (WA X (e :: es) Γ O1 fun ds O2 => S (.own C :: ds) O2 k fun Ce fds O3 => ∃ O4, DL.Sub O4 O3 ∧ kg Ce fds Γ O4) ∧ L.le L1 ∧ R X.K L1 O1 H1) (fun v d O1 L1 H1 ⟨hd, ha⟩ le i r => ⟨O1, L1, by subst hd; exact i.own', ha, le, r⟩) pins s I)
    fun u s1 ⟨v, H1, I1, r1, O1, L1, hv, ha, le1, R1⟩ => ?_) ht
  subst hv
  cases r1
  refine getmethcm_ok I1 cr cm fun s2 I2 => ?_
  refine callwith_cm I2 (base_none I1 (Nat.le_refl _)) cm.fi (thn (ha σ L1 H1 (hs.mono le1) R1 (fun vs H2 => ∃ ds O2 L2, (S (.own C :: ds) O2 k fun Ce fds O3 => ∃ O4, DL.Sub O4 O3 ∧ kg Ce fds Γ O4) ∧ L1.le L2 ∧ IsL X.K L2 vs ds ∧ R X.K L2 O2 H2) (fun vs ds O2 L2 H2 a b c d => ⟨ds, O2, L2, a, b, c, d⟩) pos _ s2 I2)
    fun us s3 ⟨vs, H2, I3, rv, ds, O2, L2, h2, le2, is2, R2⟩ => ⟨⟨pin_at I3, I3.kIn⟩, ?_⟩) hst hpl
  have sp : spOf X.K S (V.ref C :: vs) H2 Q (fun cls d H' => W cls d σ H') :=
    ⟨_, L2, _, _, _, .cons (.own C) is2, R2, h2, fun v d O3 L3 H3 hk le3 i3 r3 => q _ _ _ _ _ hk (le1.trans (le2.trans le3)) i3 r3, fun Ce d fs fds O3 L3 H3 ⟨O4, sub, hk⟩ le3 a b c r3 =>
      tw Ce d fs fds Γ O4 σ L3 H3 hk (l0.trans (le1.trans (le2.trans le3))) (hs.mono (le1.trans (le2.trans le3))) a b c (r3.sub sub)⟩
  have r2 : Vals (V.ref C :: vs) (Value.ref C :: us) := .cons rfl rv
  have hl : (Value.ref C :: us ++ []).length = ps.length := by
    rw [List.append_nil, ← r2.length]; exact G.ln _ _ _ _ sp
  have I4 := unpin I3
  refine wpAny_call (PySem.W.method_call (pin_at I3) (codeAny_mono (G.go X.A X.stack s3 H2 ⟨Value.ref C :: us, []⟩ (Value.ref C :: us ++ []) _ _ _ hgd hr I4.env0 (hb _ _ I4.kIn hl) (by rw [List.append_nil]; exact r2) sp) fun r s' hq => ?_))
  match r, hq with
  | .ok (.ret u), hq => exact I4.after hq
  | .ok .next, hq => exact hq.elim
  | .ok .brk, hq => exact hq.elim
  | .ok .cont, hq => exact hq.elim
  | .error e, hq => exact tk _ _ (XE.of_call I4 (fun _ _ _ h => h) hq)
end
end DL
/-! DL, part T: a try whose suite raises anew -/
namespace DL
open PySem PySem.Spec PyProof.Rows L2 L2H HotX
/-- exceptions without a context that the context takes -/
structure TxN (X : Cx) (L0 : Lg) (kg : KG) : Prop where
  ex : ∃ W : WX, L2N.Takes X W ∧ ∀ (C d : Addr) (fs : List (Str × V)) (fds : List (Str × D)) (Γ : Sg) (O : Ow) (σ : L2.St) (L : Lg) (H : Hp), kg C fds Γ O → L0.le L → Sl X.K L σ Γ → H d = some (.xd fs) →
    fs.map (·.1) = fds.map (·.1) → IsL X.K L (fs.map (·.2)) (fds.map (·.2)) → R X.K L O H → W (.ref C) (some d) σ H
section
variable {X : Cx} {L0 : Lg} {kg : KG} {Γ : Sg} {O : Ow} {k : KD} {De : DE} {e : Expr} {pos : Pos}
/-- the heap behind the making of an exception and its taking -/
theorem made_hp {H1 : Hp} {a dx C : Addr} {fs : List (Str × V)} (ha : H1 a = none) (hne : dx ≠ a) : upd (L2.del (upd (upd (upd H1 a (exo a C none)) dx (exd dx fs)) a (exo a C (some dx))) a) dx (.xd fs) = upd H1 dx (.xd fs) := by
  funext b
  by_cases c1 : b = dx
  · subst c1; rw [upd_same, upd_same]
  · rw [upd_ne c1, upd_ne c1]
    by_cases c2 : b = a
    · subst c2
      rw [ha]
      simp [L2.del]
    · have e3 : L2.del (upd (upd (upd H1 a (exo a C none)) dx (exd dx fs)) a (exo a C (some dx))) a b = upd (upd (upd H1 a (exo a C none)) dx (exd dx fs)) a (exo a C (some dx)) b := by
        simp [L2.del, c2]
      rw [e3, upd_ne c2, upd_ne c1, upd_ne c2]
/-- X(e), its object's context None -/
theorem pmkN {x f : Str} {C : Addr} {j : Nat} {p cpos : Pos} {ta : TA} (F : Kx X x C f j) (hr : Room (j + 1) X.A) (he : starEach [e] X.env = (false, eval e X.env) :: starEach [] X.env) (hpl : (backTo cpos (starEach [] X.env)).any (·.1) = false) (ha : PA X [e] ta) :
    L2N.PMk X (.Call (.Name x p) [e] [] cpos) (fun σ H Q => ta σ H fun vs H1 => ∃ v, vs = [v] ∧ ∀ dx, H1 dx = none → Q (.ref C) (some dx) (upd H1 dx (.xd [(f, v)]))) := fun pins s σ H Q I h => by
  obtain ⟨fI, fd, ps, iC, tI, F1, hb⟩ := F.ex
  obtain ⟨nm, q, N, bs, bm, sn, sub, ab, col, dd, k0, k1, k2, k3, k5, hC, hbm⟩ := F.cl.cls
  refine wpAny_Call_Name_kw (ld_glob I F.gl F.mg ?_ F.db)
  refine PySem.W.callWith_K (h₀ := X.base) I.ok.mod.kin F.cl.kC (thn (ha.run cpos pins s σ H _ I h) ?_) he hpl
  rintro us ⟨hp, g, dr, tk, os⟩ ⟨vs, H1, I1, r1, v, rfl, q1⟩
  refine ⟨I1.kIn, ?_⟩
  -- the object and its arguments stand behind all that was there
  let h2 := (hp.push (PySem.W.kdv_tup us)).push (PySem.HandSPX.excO C hp.objs.size)
  have far : hp.objs.size ≤ hp.objs.size + 1 := Nat.le_succ _
  have free : H1 (hp.objs.size + 1) = none := I1.hok.fresh far
  have old : ∀ b o, hp.get? b = some o → h2.get? b = some o := fun b o z => Heap.get?_push_of_some _ (Heap.get?_push_of_some _ z)
  have new : h2.get? (hp.objs.size + 1) = some (PySem.HandSPX.excO C hp.objs.size) := by heap_get
  have I2 : Inv X pins σ (upd H1 (hp.objs.size + 1) (exo (hp.objs.size + 1) C none)) ⟨h2, g, dr, tk, os⟩ := I1.laid (t' := tk) old far (exo_ok new)
  have r2 : Vals [V.ref (hp.objs.size + 1), v] (Value.ref (hp.objs.size + 1) :: us) := .cons rfl r1
  have sp : spXc C f [V.ref (hp.objs.size + 1), v] (upd H1 (hp.objs.size + 1) (exo (hp.objs.size + 1) C none)) (fun w H2 => w = .non ∧ ∃ dx, H2 = upd (upd (upd H1 (hp.objs.size + 1) (exo (hp.objs.size + 1) C none)) dx (exd dx [(f, v)])) (hp.objs.size + 1) (exo (hp.objs.size + 1) C (some dx)) ∧ H1 dx = none ∧ dx ≠ hp.objs.size + 1) fun _ _ _ => False :=
    ⟨_, v, rfl, upd_same, fun dx h1 h2 => ⟨rfl, dx, rfl, by rw [upd_ne h2] at h1; exact h1, h2⟩⟩
  have len1 : us.length = 1 := by rw [← r1.length]; rfl
  have len2 : (Value.ref (hp.objs.size + 1) :: us ++ []).length = ps.length := by rw [List.append_nil, ← r2.length]; exact F1.len _ _ _ _ sp
  have bd := hb _ (Value.ref (hp.objs.size + 1) :: us) I2.kIn len2
  rw [List.append_nil] at bd
  show wpAny _ _ (call
      (.ref C) us) _ _ _
  refine wpAny_call (PySem.HandSPX.call_own PySem.F.excBase_ValueError (fun Y => PySem.HandSPX.refsVE_contains Y bm hbm) (I1.kIn _ _ hC) (PySem.W.looks_findIn I1.kIn iC) (fun self => PySem.W.bind_fn I1.kIn self tI) (by rw [len1, sizeLine_eq]; omega) (codeAny_mono (F1.run _ X.stack _ _ _ _ _ _ _ (hr.make C us []) (I2.env0.make C us []) bd r2 sp) fun r s' hq => ?_))
  match r, hq with
  | .ok (.ret u), hq =>
    obtain ⟨w, H2, os2, bare2, un2, hok2, rv, ew, dx, eH, hd1, hne⟩ := hq
    subst ew
    obtain ⟨h3, g2, d2, t2, os'⟩ := s'
    have ea : H2 (hp.objs.size + 1) = some (exo (hp.objs.size + 1) C (some dx)) := by rw [eH]; exact upd_same
    have ed : H2 dx = some (exd dx [(f, v)]) := by rw [eH, upd_ne hne]; exact upd_same
    obtain ⟨t0, G, J, kG, ge, hoe, na⟩ := mk_end0 (d2 := d2) (t2 := t2) I1 far old un2 hok2 os2 bare2 ea ed hd1
    rw [eH, made_hp free hne] at J na
    exact ⟨rv, ⟨hp.objs.size + 1, _, _, ⟨G, g2, d2, t2, os'⟩, _, .ref C, some dx, rfl, J, kG, ge, hoe, ⟨rfl, rfl, fun vs hv => by cases hv; rfl⟩, rfl, rfl, na, rfl, bare2, raises_own F.cl.exC F.cl.tyC, q1 dx hd1⟩⟩
  | .ok .next, hq => exact False.elim hq
  | .ok .brk, hq => exact False.elim hq
  | .ok .cont, hq => exact False.elim hq
  | .error er, hq => exact False.elim hq
theorem xs_raiseN {x f : Str} {C : Addr} {j : Nat} {p cpos : Pos} (hc : X.calm = true) (tx : TxN X L0 kg) (F : Kx X x C f j) (hr : Room (j + 1) X.A) (he : starEach [e] X.env = (false, eval e X.env) :: starEach [] X.env) (hpl : (backTo cpos (starEach [] X.env)).any (·.1) = false)
    (h : WE X e Γ O fun d O1 => kg C [(f, d)] Γ O1) : WSx X L0 (.Raise (some (.Call (.Name x p) [e] [] cpos)) none pos) Γ O De := fun σ L H l0 hs hR E q => by
  obtain ⟨W, tk, tw⟩ := tx.ex
  refine toS (L2N.ps_raise hc tk (pmkN F hr he hpl (pau [e]))) ?_
  have ha : WA X [e] Γ O fun ds O1 => ∃ d, ds = [d] ∧ kg C [(f, d)] Γ O1 := wa_cons he (h.imp fun d O1 z => wa_nil ⟨d, rfl, z⟩)
  refine ha σ L H hs hR _ fun vs ds O1 L1 H1 h1 e1 i1 r1 => ?_
  obtain ⟨d, rfl, hk⟩ := h1
  obtain ⟨v, rfl, iv⟩ := i1.one'
  exact ⟨v, rfl, fun dx hdx => tw C dx [(f, v)] [(f, d)] Γ O1 σ L1 _ hk (l0.trans e1) (hs.mono e1) upd_same rfl (.cons iv .nil) (r1.aside hdx)⟩
end
/-! ### a class whose __init__ raises so -/
section
variable {base : Heap} {mg : Str → Option Value} {K : PySem.W.Frag} {w : World} {P : Program}
abbrev BxN (P : Program) (w : World) (K : PySem.W.Frag) (mg : Str → Option Value) (base : Heap) (N : List Str) (qual : Str) (st : Stmt) (f : Addr) (cdv : Value) (A : Around) (outer : List Env) (s : Shared) (H : Hp) (E : XK) : Cx :=
  cxOf (L2N.CX P w) P w K mg base N qual (defScope st) f cdv A outer s H E
/-- a class that may raise, to be made under any name -/
structure PcN (P : Program) (w : World) (K : PySem.W.Frag) (mg : Str → Option Value) (base : Heap) (C : Addr) (j : Nat) (S : SpD) : Prop where
  ex : ∃ (f : Addr) (fd : FuncData) (ps : List Str), FnG P w K mg base (L2N.CX P w) j f fd ps (spOf K S) ∧ Mk K C f ∧ Binds K fd ps []
theorem PcN.of {C : Addr} {qual : Str} {st : Stmt} {N ps : List Str} {j : Nat} {S : SpD} (T : Di K C qual st ps) (Sc : FnScope N ps (defScope st)) (len : ∀ ds O k kx, S ds O k kx → ds.length = ps.length)
    (h : ∀ (f : Addr) (cdv : Value) (A : Around) (outer : List Env) (s : Shared) (H : Hp) (E : XK), A.guards = some [] → Room j (A.deeper (envOfC qual (defScope st) s.heap.objs.size f cdv)) → ∀ L0 ds O k kx, S ds O k kx →
      TxN (BxN P w K mg base N qual st f cdv A outer s H E) L0 (fun C fds _ O' => kx C fds O') →
      WSsx (BxN P w K mg base N qual st f cdv A outer s H E) L0 (defBody st) (gst N.length ds) O { nx := fun _ O' => Ret k .non O', rt := Ret k }) : PcN P w K mg base C (j + 1) S := by
  obtain ⟨f, fd, hm, F, hb⟩ := T.ex
  refine ⟨f, fd, ps, FnG.body F Sc (fun vs H Q E ⟨ds, L, O, k, kx, hi, _, hs, _⟩ => hi.length.trans (len ds O k kx hs)) fun cdv A outer s H vs Q E hg hr hsp => ?_, hm, hb⟩
  obtain ⟨ds, L, O, k, kx, hi, hR, hS, hk, hx⟩ := hsp
  have tx : TxN (BxN P w K mg base N qual st f cdv A outer s H E) L (fun C fds _ O' => kx C fds O') :=
    ⟨⟨fun cls d _ H => E cls d H, L2N.takes_of rfl rfl rfl rfl, fun C d fs fds Γ O' σ L' H' a le _ b c e r => hx C d fs fds O' L' H' a le b c e r⟩⟩
  have z := h f cdv A outer s H E hg hr L ds O k kx hS tx (start N vs) L H (.refl L) (sl_start hi) hR { nx := fun _ H' => Q .non H', rt := Q }
    ⟨fun Γ' O' σ' L' H' a le _ r => fol_ret hk .non .non O' L' H' a le .non r, fol_ret hk, fun _ _ _ _ _ a => a.elim, fun _ _ _ _ _ a => a.elim⟩
  exact fun pins s' I => z pins s' I
end
section
variable {X : Cx} {L0 : Lg} {kg : KG} {Γ : Sg} {O : Ow} {k : KD} {De : DE} {e : Expr} {es : List Expr} {pos : Pos}
/-- a class under a local name, x(e, ..) -/
theorem we_makeL {x : Str} {i : Nat} {C : Addr} {j : Nat} {S : SpD} {p pos : Pos} (F : PcN X.prog X.w X.K X.mg X.base C j S) (tx : TxN X L0 kg) (hx : Va X x i) (hi : Γ[i]? = some (some (.own C))) (hgd : X.A.guards = some []) (hr : Room (j + 1) X.A) (he : starEach (e :: es) X.env = (false, eval e X.env) :: starEach es X.env) (hpl : (backTo pos (starEach es X.env)).any (·.1) = false)
    (h : WA X (e :: es) Γ O fun ds O1 => ∀ p, O1 p = none → S (.own p :: ds) (put O1 p (.ins C [])) (fun d O2 => d = .non ∧ Fz k (.own p) O2) fun Ce fds O2 => ∃ O3, DL.Sub O3 O2 ∧ kg Ce fds Γ O3) : WEx X L0 (.Call (.Name x p) (e :: es) [] pos) Γ O k := fun σ L H l0 hs hR Q q0 pins s I => by
  have q := fol_fz q0
  obtain ⟨W, tk, tw⟩ := tx.ex
  obtain ⟨f, fd, ps, G, M, hb⟩ := F.ex
  obtain ⟨vc, ec, ic⟩ := hs.at_ i _ hi
  obtain rfl := ic.own'
  refine wpAny_Call_Name_kw (thn ((we_var (k := fun d O1 => d = .own C ∧ O1 = O) (pos := p) hx hi ⟨rfl, rfl⟩) σ L H hs hR (fun v H1 => v = .ref C ∧ ∃ L1, L.le L1 ∧ R X.K L1 O H1) (fun v d O1 L1 H1 ⟨a, b⟩ le i1 r1 => by subst a; subst b; exact ⟨i1.own', L1, le, r1⟩) pins s I) fun u0 s0 ⟨v0, H0, I0, r0, e0, L00, le0, R0⟩ => ?_)
  subst e0
  cases r0
  refine PySem.W.callWith_K (h₀ := X.base) I.ok.mod.kin M.kp (thn (h σ L00 H0 (hs.mono le0) R0 (fun vs H1 => ∃ ds O1 L1, (∀ p, O1 p = none → S (.own p :: ds) (put O1 p (.ins C [])) (fun d O2 => d = .non ∧ Fz k (.own p) O2) fun Ce fds O2 => ∃ O3, DL.Sub O3 O2 ∧ kg Ce fds Γ O3) ∧ L.le L1 ∧ IsL X.K L1 vs ds ∧ R X.K L1 O1 H1) (fun vs ds O1 L1 H1 a b c d => ⟨ds, O1, L1, a, le0.trans b, c, d⟩) pos pins s0 I0)
    fun us s1 ⟨vs, H1, I1, rv, ds, O1, L1, h1, le1, is1, r1⟩ => ⟨I1.kIn, ?_⟩) he hpl
  have n1 : H1 (s1.heap.objs.size + 1) = none := I1.hok.fresh (Nat.le_succ _)
  have n2 : H1 s1.heap.objs.size = none := I1.hok.fresh (Nat.le_refl _)
  have ne : s1.heap.objs.size + 1 ≠ s1.heap.objs.size := Nat.succ_ne_self _
  have I2 := Inv.made (C := C) I1
  have ra := r1.aside (o := .own (s1.heap.objs.size + 1)) n2
  have n3 : upd H1 s1.heap.objs.size (.own (s1.heap.objs.size + 1)) (s1.heap.objs.size + 1) = none := by rw [upd_ne ne]; exact n1
  have rb := ra.newOwn (p := s1.heap.objs.size + 1) (o := .ins C s1.heap.objs.size []) (od := .ins C []) n3 ⟨_, [], upd_same, rfl, .nil⟩
  have sp : spOf X.K S (V.ref (s1.heap.objs.size + 1) :: vs) _ (fun v H2 => v = .non ∧ Q (.ref (s1.heap.objs.size + 1)) H2) (fun cls d H => W cls d σ H) :=
    ⟨_, L1, _, _, _, .cons (.own (s1.heap.objs.size + 1)) is1, rb, h1 _ (ra.free n3).2.1, fun v d O2 L2 H2 ⟨hd, hk⟩ le2 i2 r2 => by
      subst hd
      exact ⟨i2.non', q _ _ _ _ _ hk (le1.trans le2) (.own _) r2⟩, fun Ce d fs fds O2 L2 H2 ⟨O3, sub, hk⟩ le2 a b c r2 =>
      tw Ce d fs fds Γ O3 σ L2 H2 hk (l0.trans (le1.trans le2)) (hs.mono (le1.trans le2)) a b c (r2.sub sub)⟩
  have r2 : Vals (V.ref (s1.heap.objs.size + 1) :: vs) (Value.ref (s1.heap.objs.size + 1) :: us) := .cons rfl rv
  have hl : (Value.ref (s1.heap.objs.size + 1) :: us ++ []).length = ps.length := by
    rw [List.append_nil, ← r2.length]; exact G.ln _ _ _ _ sp
  refine wpAny_call (make_map (f := f) I1.kIn M.makes M.init (beq_iff_eq.mp M.fn) (codeAny_mono (G.go _ X.stack _ _ ⟨Value.ref (s1.heap.objs.size + 1) :: us, []⟩ (Value.ref (s1.heap.objs.size + 1) :: us ++ []) _ _ _ (make_guards hgd) (hr.make C us []) (I2.env0.make C us []) (hb _ _ I2.kIn hl) (by rw [List.append_nil]; exact r2) sp) fun r s' hq => ?_))
  match r, hq with
  | .ok (.ret u), hq =>
    obtain ⟨v, H', I3, rv', ev, q3⟩ := I2.after hq
    subst ev
    exact ⟨rv', ⟨V.ref (s1.heap.objs.size + 1), H', I3, rfl, q3⟩⟩
  | .ok .next, hq => exact hq.elim
  | .ok .brk, hq => exact hq.elim
  | .ok .cont, hq => exact hq.elim
  | .error e, hq => exact tk _ _ (L2N.XE.of_call I2 (fun _ _ _ h => h) hq)
/-- an exception class with one argument, made while another one is handled -/
structure KxH (X : Cx) (x : Str) (C : Addr) (f : Str) (j : Nat) : Prop where
  cl : OexC X.K C
  ex : ∃ (fI : Addr) (fd : FuncData) (ps : List Str), PySem.W.findIn X.K (.ref C) "__init__" = some (some (.ref fI)) ∧ PySem.W.typeIn X.K (.ref fI) = some (.type "function") ∧ FnH X.prog X.w X.K X.mg X.base CX0 j fI fd ps (spXc C f) ∧ Binds X.K fd ps []
  mg : X.mg x = some (.ref C)
  gl : Gl X x
  db : (x == ("__debug__" : Str)) = false
/-- raise x(e) from None, in an except suite -/
theorem xs_raiseHN {x f : Str} {C : Addr} {j jj : Nat} {p cpos npos : Pos} (hc : HotC X) (tx : Tx X L0 kg) (F : KxH X x C f j) (hr : RoomH (j + 1) X.A) (he : starEach [e] X.env = (false, eval e X.env) :: starEach [] X.env) (hpl : (backTo cpos (starEach [] X.env)).any (·.1) = false)
    (h : WE X e Γ O fun d O1 => kg C [(f, d)] Γ O1) : WSx X L0 (.Raise (some (.Call (.Name x p) [e] [] cpos)) (some (.Constant .none jj npos)) pos) Γ O De := fun σ L H l0 hs hR E q => by
  obtain ⟨W, tk, tw⟩ := tx.ex
  obtain ⟨fI, fd, ps, iC, tI, F1, hb⟩ := F.ex
  refine toS (ps_raiseHN hc tk (pmk5_oexH F.cl iC tI F1 hr hc hb pass0 F.gl F.mg (pau [e]) F.db he hpl)) ?_
  have ha : WA X [e] Γ O fun ds O1 => ∃ d, ds = [d] ∧ kg C [(f, d)] Γ O1 := wa_cons he (h.imp fun d O1 z => wa_nil ⟨d, rfl, z⟩)
  refine ha σ L H hs hR _ fun vs ds O1 L1 H1 h1 e1 i1 r1 => ?_
  obtain ⟨d, rfl, hk⟩ := h1
  obtain ⟨v, rfl, iv⟩ := i1.one'
  refine ⟨by show 1 ≤ 1000; decide, fun a ha1 => ⟨a, v, rfl, upd_same, fun dx hdx hne => ?_⟩⟩
  have h1dx : H1 dx = none := by rw [upd_ne hne] at hdx; exact hdx
  refine ⟨rfl, dx, [(f, v)], upd_same, ?_, h1dx, ?_⟩
  · rw [upd_ne hne]; exact upd_same
  rw [made_hp ha1 hne]
  exact tw C dx [(f, v)] [(f, d)] Γ O1 σ L1 _ hk (l0.trans e1) (hs.mono e1) upd_same rfl (.cons iv .nil) (r1.aside h1dx)
/-- try: body / except x: suite, where the suite may raise; kg: what the body may let out, all of it caught; kgo: what the suite may let out -/
theorem xs_tryN {x : Str} {c : Value} {body suite : List Stmt} {b₀ : Stmt} {np pos' : Pos} {kgo : KG} (kg : KG) (tx : Tx X L0 kgo) (hs : X.stack = X.env :: X.outer) (hf : X.env.frame = some X.env.locals) (hc : Names X x c) (hpa : ∀ hd : Option Value, PassesOwnAt (model X.prog X.w) (X.A.mark hd) X.A X.env X.xe)
    (hb : ∀ (L1 : Lg) (pn : List (Addr × Obj)) (xe : Value → Shared → Prop), L0.le L1 → PassesOwn (model X.prog X.w) X.A X.env xe → TxN (X.tr pn xe) L1 kg → WSsx (X.tr pn xe) L1 body Γ O De)
    (hh : ∀ C fds Γ' O', kg C fds Γ' O' → PySem.W.exmOne X.K (.ref C) c = some true ∧ ∀ (L1 : Lg) (a dd : Addr) (oe : Obj) (pn : List (Addr × Obj)), L0.le L1 → L2N.Zn (.ref C) (some dd) oe → (∃ vs, oe.data = .fields vs) → Tx (suiteX X a ((a, oe) :: pn)) L1 kgo → HotC (suiteX X a ((a, oe) :: pn)) →
      WSsx (suiteX X a ((a, oe) :: pn)) L1 (b₀ :: suite) Γ' O' De) :
    WSx X L0 (.Try body [.ExceptHandler (some (.Name x np)) none (b₀ :: suite) pos'] [] [] pos) Γ O De := fun σ L H l0 hsl hr E q => by
  obtain ⟨Wo, tko, two⟩ := tx.ex
  let tb : WX → TS := fun W D σ H => ∀ (pn : List (Addr × Obj)) (xe : Value → Shared → Prop), L2N.Takes (X.tr pn xe) W → PassesOwn (model X.prog X.w) X.A X.env xe → uSs (X.tr pn xe) body D σ H
  let ts : Addr → Value → Option Addr → TS := fun a cls d D σ H => ∀ (oe : Obj) (pn : List (Addr × Obj)), L2N.Zn cls d oe → (∃ vs, oe.data = .fields vs) → L2.Takes (suiteX X a ((a, oe) :: pn)) Wo → HotC (suiteX X a ((a, oe) :: pn)) → uSs (suiteX X a ((a, oe) :: pn)) (b₀ :: suite) D σ H
  refine toS (ps_try_onlyX (tb := tb) (ts := ts) (Wout := Wo) hs hf hc hpa tko (fun W pn xe tk _ po => ⟨fun pins s σ H D I h => h pn xe tk po pins s I⟩) (fun a oe cls d pn hz hv tk hot => ⟨fun pins s σ H D I h => h oe pn hz hv tk hot pins s I⟩)) ?_
  intro pn xe tk po
  have txn : TxN (X.tr pn xe) L kg := ⟨⟨_, tk, fun C d fs fds Γ' O' σ' L' H' hk le hsl' hd e1 e2 r => by
    obtain ⟨z1, z2⟩ := hh C fds Γ' O' hk
    refine ⟨true, z1, fun _ a ha oe pn' hz hv tkS hot => ?_, fun z => by cases z⟩
    exact z2 L' a d oe pn' (l0.trans le) hz hv ⟨⟨Wo, tkS, fun C2 d2 fs2 fds2 Γ2 O2 σ2 L2 H2 hk2 le2 => two C2 d2 fs2 fds2 Γ2 O2 σ2 L2 H2 hk2 ((l0.trans le).trans le2)⟩⟩ hot σ' L' H' (.refl L') hsl' r _ (q.le le)⟩⟩
  exact hb L pn xe l0 po txn σ L H (.refl L) hsl hr E q
end
end DL
/-! DL, part U: splits, inserts, written dicts, unpacked lists, raising calls within expressions -/
namespace DL
open L2 PySem
open PySem.Spec PyProof.Rows
section
variable {X : Cx} {Γ : Sg} {O : Ow} {k : KD}
theorem wm_insert {p : Addr} {ds : List D} {i : Int} {d : D} (ho : O p = some (.lst ds)) (hz : ds.length < sizeLine) (h0 : 0 ≤ i) (h1 : i < 2 ^ 63) (h : k .non (put O p (.lst (ds.take i.toNat ++ [d] ++ ds.drop i.toNat)))) : WM X "list.insert" (.own p) [.int i, d] O k := fun vx vs L H ix is hr Q q => by
  obtain ⟨v, u, rfl, i1, i2⟩ := is.two'
  obtain ⟨xs, g1, g2⟩ := own_lst hr ho
  refine toM mt_insert ⟨p, xs, i, u, ix.own', by rw [i1.int'], g1, by rw [g2.length]; exact hz, h0, h1, ?_⟩
  exact q _ _ _ _ _ h (.refl L) .non (hr.change ho ⟨_, upd_same, ((g2.take _).append (.cons i2 .nil)).append (g2.drop _)⟩)
/-- a written dict with text keys, at d -/
structure Kd (X : Cx) (d : Addr) (kvs : List (Str × D)) : Prop where
  ex : ∃ (es : Array DictEntry) (n : Nat), KDict X.K X.w d es n
  at_ : ∀ z : Str, match kvs.lookup z with
    | some e => ∃ (u : Value) (v : V), PySem.W.nsIn X.K d z = some (some u) ∧ RelV v u ∧ ∀ L, Is X.K L v e
    | none => PySem.W.nsIn X.K d z = some none
theorem wo_inKd {d : Addr} {kvs : List (Str × D)} {z : Str} (F : Kd X d kvs) (h : k (.bl (kvs.lookup z).isSome) O) : WO X (compareOp .In) (.str z) (.own d) O k := fun vx vy L H ix iy hr Q q => by
  obtain ⟨es, n, D⟩ := F.ex
  have a := F.at_ z
  cases e : kvs.lookup z with
  | some y =>
    rw [e] at a h
    obtain ⟨u, v, e1, _, _⟩ := a
    exact toO (op_in_kd D) ⟨z, some u, ix.str', iy.own', e1, q _ _ _ _ _ h (.refl L) (.bl _) hr⟩
  | none =>
    rw [e] at a h
    exact toO (op_in_kd D) ⟨z, none, ix.str', iy.own', a, q _ _ _ _ _ h (.refl L) (.bl _) hr⟩
theorem wo_ninKd {d : Addr} {kvs : List (Str × D)} {z : Str} (F : Kd X d kvs) (h : k (.bl (!(kvs.lookup z).isSome)) O) : WO X (compareOp .NotIn) (.str z) (.own d) O k := fun vx vy L H ix iy hr Q q => by
  obtain ⟨es, n, D⟩ := F.ex
  have a := F.at_ z
  cases e : kvs.lookup z with
  | some y =>
    rw [e] at a h
    obtain ⟨u, v, e1, _, _⟩ := a
    exact toO (op_notIn_kd D) ⟨z, some u, ix.str', iy.own', e1, q _ _ _ _ _ h (.refl L) (.bl _) hr⟩
  | none =>
    rw [e] at a h
    exact toO (op_notIn_kd D) ⟨z, none, ix.str', iy.own', a, q _ _ _ _ _ h (.refl L) (.bl _) hr⟩
theorem wi_kd {d : Addr} {kvs : List (Str × D)} {z : Str} {e : D} (F : Kd X d kvs) (he : kvs.lookup z = some e) (h : k e O) : WI X (.own d) (.str z) O k := fun vx vy L H ix iy hr Q q => by
  obtain ⟨es, n, D⟩ := F.ex
  have a := F.at_ z
  rw [he] at a
  obtain ⟨u, v, e1, r, i⟩ := a
  exact toI ix_kdict ⟨d, z, v, ix.own', iy.str', ⟨es, n, u, D.at_, D.lit, e1, r⟩, q _ _ _ _ _ h (.refl L) (i L) hr⟩
/-- a, b, .. = a list of so many -/
theorem wg_lst {es : List Expr} {kk : Nat} {ds : List D} {pos} {kn : Sg → Ow → Prop} (hc : X.calm = true) (hn : (assignEach es X.env).length = ds.length) (hst : (assignEach es X.env).findIdx? (·.1) = none) (h : WGs X es ds Γ O kn) : WG X (.Tuple es kk pos) (.lst ds) Γ O kn := fun v σ L H iv hs hr q hq => by
  obtain ⟨a, vs, rfl, s, t⟩ := iv.lst'
  refine toG (pg_lst (n := ds.length) hc (pgsu es) hn hst) ⟨a, vs, rfl, .inl (.inl (hr.hp _ _ s)), t.length, ?_⟩
  exact h vs σ L H t hs hr q hq
/-- a call that lets nothing out -/
theorem txF {L0 : Lg} : Tx X L0 (fun _ _ _ _ => False) := ⟨⟨fun _ _ _ _ => False, fun u s' ⟨_, _, _, _, _, _, _, _, _, _, _, _, _, _, _, _, w⟩ => w.elim, fun _ _ _ _ _ _ _ _ _ h => h.elim⟩⟩
theorem we_ofX {e : Expr} (h : ∀ L0, WEx X L0 e Γ O k) : WE X e Γ O k := fun σ L H hs hr Q q => h L σ L H (.refl L) hs hr Q q
end
section
variable {X : Cx} {L0 : Lg} {Γ : Sg} {O : Ow} {k : KD} {e : Expr} {p pos : Pos}
/-- T(e), e may raise -/
theorem ex_callT1 {x : Str} {T : String} (B : Bt X x T) (he : starEach [e] X.env = (false, eval e X.env) :: starEach [] X.env) (hpl : (backTo pos (starEach [] X.env)).any (·.1) = false) (h : WEx X L0 e Γ O fun d O1 => DL.WC X (.type T) [d] O1 k) : WEx X L0 (.Call (.Name x p) [e] [] pos) Γ O k := fun σ L H l0 hs hr Q q => by
  refine toE (pe_callTy (cu _) B.hg B.hm B.hv (pau _) B.hn B.hd he hpl) (toA (pa_cons (pu e) (pau []) he) ?_)
  refine h σ L H l0 hs hr _ fun v d O1 L1 H1 h1 e1 i1 r1 => ?_
  refine toA pa_nil ?_
  exact h1 [v] L1 H1 (.cons i1 .nil) r1 Q (q.le e1)
end
end DL
/-! DL, part V: a lambda without parameters, handed to a def that calls it -/
namespace DL
open L2 PySem
open PySem.Spec PyProof.Rows
open LamX (CodeO TabB LamS lamEnv lamCx)
/-- P is the only table, of the name q -/
structure Tb (O : Ow) (P : Addr) (q : Str) : Prop where
  at_ : O P = some (.tab q)
/-- the lambda's object -/
abbrev lamO (X : Cx) (params : Arguments) (body : Expr) (scope : Scope) (pm : Value) (c' : Addr) (ctv : Value) : Obj :=
  PySem.W.kla_obj "<lambda>" (X.env.qual ++ "<lambda>") params body scope (cloFrom X.env.cells scope.names []) pm c' ctv
section
variable {X : Cx} {pins : List (Addr × Obj)}
    {σ : L2.St} {H : Hp} {s : Shared}
/-- a lambda is made: its code is in the table, or comes to it -/
theorem lam_new {G : Addr → Prop} {c P : Addr} {q : Str} {ps : Array Value} {params : Arguments} {body : Expr} {scope : Scope} {pos : Pos} {E Q : Value → Shared → Prop} (I : Inv X pins σ H s) (B : TabB X.base X.mg c P) (hcode : X.env.code = .ref c) (hq : q = X.env.qual ++ "<lambda>")
    (hP : H P = some (.tbl ps)) (ht : TriplesOk ps.toList) (ha : ∀ (p' : Pos) (cv : Value), codeAmong p' ps.toList = some cv → ∃ c', cv = .ref c' ∧ G c' ∧ H c' = some (CodeO c' q)) (hdef : defaultsOf params X.env = ([], [])) (L : LamS X.env.scope scope)
    (h : ∀ (f c' : Addr) (pm ctv : Value) (H1 : Hp) (s' : Shared), Inv X pins σ H1 s' → ((H1 = H ∧ G c' ∧ H c' = some (CodeO c' q)) ∨ (H c' = none ∧ H1 = upd (upd H P (.tbl (ps ++ #[rawInt pos.line, rawInt pos.col, .ref c']))) c' (CodeO c' q))) →
      s'.heap.get? f = some (lamO X params body scope pm c' ctv) → H1 f = none → f ∉ frs X.stack → Q (.ref f) s') :
    wpAny (model X.prog X.w) X.A (eval (.Lambda
        params body scope pos) X.env) Q E s := by
  subst hq
  have free := L.has I.ok
  have far : ∀ f, s.heap.objs.size ≤ f → f ∉ frs X.stack := fun f hf z => by
    rcases List.mem_cons.mp (I.stkSub
        _ z) with e | e
    · have lt := I.lt
      rw [← e] at lt
      exact absurd lt (Nat.not_lt.mpr hf)
    · exact I.nofs hf e
  have bP := B.bm.keeps I.bk
  have gP := I.hok P _ hP
  refine PySem.W.kla_eval
      hdef ?_
  cases hc : codeAmong
      pos ps.toList with
  | some cv =>
    obtain ⟨c', rfl, g, hco⟩ := ha pos cv hc
    refine PySem.W.kla_makeFunctionHit (mg := X.mg) (c := c) (P := P) (ps := ps) (closure_ok free) I.ok.glob (I.mod.glob.keeps I.bk) hcode (B.code.keeps I.bk) gP ht hc bP fun ctv h' tk kp hsz => ?_
    exact h h'.objs.size c' ((X.mg "__name__").getD .none) ctv H _ (I.kept fun b o e => Heap.get?_push_of_some _ (kp b o e)) (.inl ⟨rfl, g, hco⟩) (Heap.get?_push_size _ rfl) (I.hok.fresh hsz) (far _ hsz)
  | none =>
    refine PySem.W.kla_makeFunction (mg := X.mg) (c := c) (P := P) (ps := ps) (closure_ok free) I.ok.glob (I.mod.glob.keeps I.bk) hcode (B.code.keeps I.bk) gP ht hc B.gP bP fun c' ctv h' tk kp hge hlt hrec htb => ?_
    obtain ⟨c2, oc, vs, t,
        e2, hoc, hd, hv⟩ := hrec
    cases e2
    have nC : H c' = none
        := I.hok.fresh hge
    have big : s.heap.objs.size ≤ h'.objs.size := Nat.le_trans hge (Nat.le_of_lt hlt)
    have J := LamX.inv_table (t' := tk) (more := #[rawInt pos.line, rawInt pos.col, .ref c']) (h' := h'.push (lamO X params body scope ((X.mg "__name__").getD .none) c' ctv)) I hP
      (fun b o hb e => Heap.get?_push_of_some _ (kp b o hb e)) (Heap.get?_push_of_some _ htb) hge ⟨oc, vs, t, Heap.get?_push_of_some _ hoc, hd, hv⟩
    refine h h'.objs.size c' ((X.mg "__name__").getD .none) ctv _ _ J (.inr ⟨nC, rfl⟩) (Heap.get?_push_size _ rfl) ?_ (far _ big)
    have n1 : h'.objs.size ≠ c' := Nat.ne_of_gt hlt
    have n2 : h'.objs.size ≠ P := Nat.ne_of_gt (Nat.lt_of_lt_of_le (Heap.lt_size gP) big)
    rw [upd_ne n1, upd_ne n2]
    exact I.hok.fresh big
/-- .. over data -/
theorem R.lam {K : PySem.W.Frag} {L : Lg} {O : Ow} {H1 : Hp} {P c' : Addr} {q : Str} {ps : Array Value} {pos : Pos} (r : R K L O H) (hO : O P = some (.tab q)) (hP : H P = some (.tbl ps)) (ht : TriplesOk ps.toList) (ha : ∀ (p' : Pos) (cv : Value), codeAmong p' ps.toList = some cv → ∃ c', cv = .ref c' ∧ L.hp c' = some (CodeO c' q))
    (h : (H1 = H ∧ L.hp c' = some (CodeO c' q) ∧ H c' = some (CodeO c' q)) ∨ (H c' = none ∧ H1 = upd (upd H P (.tbl (ps ++ #[rawInt pos.line, rawInt pos.col, .ref c']))) c' (CodeO c' q))) :
    ∃ L1 : Lg, L.le L1 ∧ L1.hp c' = some (CodeO c' q) ∧ R K L1 O H1 := by
  rcases h with ⟨rfl, g, _⟩ | ⟨nC, rfl⟩
  · exact ⟨L, .refl L, g, r⟩
  · obtain ⟨f1, _⟩ := r.free nC
    have le := Lg.le_add (L := L) (o := CodeO c' q) f1
    have r1 : R K (L.add c' (CodeO c' q)) O (upd H c' (CodeO c' q)) := r.new nC
    have ne : P ≠ c' := fun z => by rw [z, nC] at hP; cases hP
    have eL : (ps ++ #[rawInt pos.line, rawInt pos.col,
        .ref c']).toList = ps.toList ++ [rawInt pos.line, rawInt pos.col, .ref c'] := by simp
    have r2 := r1.change (p := P) (o := .tbl (ps ++ #[rawInt pos.line, rawInt pos.col, .ref c'])) (od' := .tab q) hO ⟨_, upd_same, by rw [eL]; exact PySem.TriplesOk_snoc _ _ _ _ ht, fun p' cv hcv => by
      rw [eL] at hcv
      rcases LamX.among_app _ ht hcv with z | z
      · obtain ⟨c0, e1,
            e2⟩ := ha p' cv z
        exact ⟨c0, e1, le.hp _ _ e2⟩
      · exact ⟨c', z, upd_same⟩⟩
    rw [put_back hO] at r2
    refine ⟨_, le, upd_same, ?_⟩
    have e : upd (upd H c' (CodeO c' q)) P (.tbl (ps ++ #[rawInt pos.line, rawInt pos.col, .ref c'])) = upd (upd H P (.tbl (ps ++ #[rawInt pos.line, rawInt pos.col, .ref c']))) c' (CodeO c' q) := by
      funext b
      by_cases h1 : b = P
      · subst h1
        rw [upd_same, upd_ne ne, upd_same]
      · rw [upd_ne h1]
        by_cases h2 : b = c'
        · subst h2
          rw [upd_same, upd_same]
        · rw [upd_ne h2, upd_ne h2, upd_ne h1]
    rw [← e]
    exact r2
end
/-! ### the def that got the lambda, and its call -/
/-- a(), in a def's body: what the lambda promises -/
def Act (Z : Cx) (f : Addr) (a : Str) (S : SpD) (L0 : Lg) : Prop := ∀ (L1 : Lg) (kg : KG) (Γ : Sg) (O : Ow) (k : KD) (p1 p2 : Pos), L0.le L1 → Tx Z L1 kg → Γ[0]? = some (some (.own f)) → S [] O k (fun C fds O' => kg C fds Γ O') → WEx Z L1 (.Call (.Name a p1) [] [] p2) Γ O k
section
variable {X : Cx} {pins : List (Addr × Obj)} {σ : L2.St} {H : Hp} {s : Shared} {L : Lg} {Γ : Sg}
theorem act_mk {Ng : List Str} {x a : Str} {st : Stmt} {g f c' : Addr} {cdg pm ctv : Value} {params : Arguments} {body : Expr} {scope : Scope} {k : Nat} {S : SpD} {Eg : XK} {pn : List (Addr × Obj)} {xe : Value → Shared → Prop}
    (I : Inv X pins σ H s) (Ls : LamS X.env.scope scope) (hsl : Sl X.K L σ Γ) (hco : L.hp c' = some (CodeO c' (X.env.qual ++ "<lambda>")))
    (hf : s.heap.get? f = some (lamO X params body scope pm c' ctv)) (hfn : H f = none) (hfr : f ∉ frs X.stack)
    (hbind : bindArgs (PySem.W.kla_fn "<lambda>" (X.env.qual ++ "<lambda>") params body scope (cloFrom X.env.cells scope.names []) pm (.ref c') ctv) ⟨[],
        []⟩ = pure [])
    (hgd : X.A.guards = some []) (hr : Room (k + 1) (X.A.deeper (envOfC x (defScope st) s.heap.objs.size g cdg)))
    (hbody : ∀ (A : Around) (outer : List Env) (s : Shared) (H : Hp) (E : XK), A.guards = some [] → Room k (A.deeper (lamEnv X scope s.heap.objs.size f c')) → ∀ (L0 : Lg) (O : Ow) (k : KD) (kx : KX), S [] O k kx →
      Tx (lamCx X A outer s H E scope f c') L0 (fun C fds _ O' => kx C fds O') → WEx (lamCx X A outer s H E scope f c') L0 body Γ O k)
    (hN : Ng[0]? = some a) (hv : Vis (defScope st) a) (hd : (a == ("__debug__" : Str)) = false) (hcd : (a == ("__classdict__" : Str)) = false) :
    Act ((Bo X.prog X.w X.K X.mg X.base Ng x st g cdg X.A X.stack s H Eg).tr pn xe) f a S L := by
  intro L1 kg ΓZ O kk p1 p2 l1 tx hΓ hS σZ LZ HZ lZ hslZ hRZ Q q pinsZ sZ IZ
  obtain ⟨W, tk, tw⟩ := tx.ex
  have lk : Va ((Bo X.prog X.w X.K X.mg X.base Ng x st g cdg X.A X.stack s H Eg).tr pn xe) a 0 := ⟨hN, hv, hd, hcd⟩
  refine wpAny_Call_Name_kw (thn ((we_var (k := fun d O1 => d = .own f ∧ O1 = O) (pos := p1) lk hΓ ⟨rfl, rfl⟩) σZ LZ HZ hslZ hRZ (fun v H1 => v = .ref f ∧ ∃ M2, LZ.le M2 ∧ R X.K M2 O H1) (fun v d O1 M2 H1 ⟨e1, e2⟩ le i1 r1 => by subst e1; subst e2; exact ⟨i1.own', M2, le, r1⟩) pinsZ sZ IZ) fun u s1 ⟨v, H1, I1, rv, ev, M2, le2, r2⟩ => ?_)
  subst ev
  obtain rfl : u = Value.ref f := rv
  have of1 : s1.heap.get? f = some (lamO X params body scope pm c' ctv) := I1.base.keep f _ hf hfn hfr (fun z => nomatch (show f ∈ ([] : List Addr) from z))
  refine PySem.W.callWith_F0 ⟨_,
      _, _, _, of1⟩ ?_
  have hc1 : H1 c' = some (CodeO c' (X.env.qual ++ "<lambda>")) := r2.hp _ _ (((l1.trans lZ).trans le2).hp _ _ hco)
  obtain ⟨⟨oc, vs, t, hoc, hdc, hvc⟩, _, _⟩ := I1.hok c' _ hc1
  let A1 := X.A.deeper (envOfC x (defScope st) s.heap.objs.size g cdg)
  let E1 : XK := fun cls d H' => W cls d σZ H'
  have rc : codeAny (model X.prog X.w) A1 (.call (.ref f) ⟨[], []⟩) (CR (L2.CX X.prog X.w) (envOfC x (defScope st) s.heap.objs.size g cdg :: X.stack) X.prog X.w H1 s1 Q E1) s1 := by
    refine PySem.W.kla_callFunE hr.depth of1 rfl Ls.co Ls.gen rfl ⟨c', oc, vs, t, rfl, hoc, hdc, hvc⟩ ?_
    rw [hbind]
    refine wpAny_pure (wpAny_newFunctionEnv (fun y hy => (Ls.own y hy).2) (fun y hy => absurd hy (by simp)) (fun h₁ hns hsb => ⟨I1.nolimit.fresh _ hsb, ?_⟩) Ls.kind)
    show codeAny _ _ (.expr body (lamEnv
        X scope s1.heap.objs.size f c')) _ _
    have kp : ∀ b o, s1.heap.get? b = some o → h₁.get? b = some o := fun b o e => hsb.extBut b o (Nat.ne_of_lt
        (Heap.lt_size e)) (Heap.get?_push_of_some _ e)
    have J : Inv (lamCx X A1 (envOfC x (defScope st) s.heap.objs.size g cdg :: X.stack) s1 H1 E1 scope f c') [] σ H1 { s1 with heap := h₁, toks := s1.toks + ([] : List (Str × Value)).length } :=
      LamX.lam_start2 I Ls I1.env0 hr.hd I1.base hns kp
    have txl : Tx (lamCx X A1 (envOfC x (defScope st) s.heap.objs.size g cdg :: X.stack) s1 H1 E1 scope f c') M2 (fun C fds _ O' => kg C fds ΓZ O') :=
      ⟨⟨fun cls d _ H' => E1 cls d H', takes_of rfl rfl rfl rfl, fun C d fs fds Γ' O' σ' L' H' hk le _ hd e1 e2 r =>
        tw C d fs fds ΓZ O' σZ L' H' hk ((lZ.trans le2).trans le) (hslZ.mono (le2.trans le)) hd e1 e2 r⟩⟩
    have hb := hbody A1 (envOfC x (defScope st) s.heap.objs.size g cdg :: X.stack) s1 H1 E1 hgd (hr.deeper _) M2 O kk _ hS txl σ M2 H1 (.refl _) (hsl.mono ((l1.trans lZ).trans le2)) r2 Q (q.le le2)
    refine PySem.W.kla_codeExpr (wpAny_mono (hb [] _ J) (fun v s' hq => ?_) fun e s' hq => hq)
    obtain ⟨w', H', J', rv, qq⟩ := hq
    exact ⟨w', H', J'.os, J'.bare, J'.base, J'.hok, rv, qq⟩
  refine wpAny_call (codeAny_mono
      rc fun r s' hq => ?_)
  match r, hq with
  | .ok (.ret u), hq => exact I1.after hq
  | .ok .next, hq => exact hq.elim
  | .ok .brk, hq => exact hq.elim
  | .ok .cont, hq => exact hq.elim
  | .error e, hq => exact tk _ _ (XE.of_call I1 (fun _ _ _ h => h) hq)
/-- x(lambda: body) -/
theorem we_lamcall {x a q : Str} {st : Stmt} {Ng : List Str} {P c : Addr} {S : SpD} {j : Nat} {O : Ow} {k : KD} {params : Arguments} {body : Expr} {scope : Scope} {p lpos pos : Pos} (T : Df X.K X.mg x st [a]) (gl : Gl X x) (db : (x == ("__debug__" : Str)) = false)
    (Sc : FnScope Ng [a] (defScope st)) (hN : Ng[0]? = some a) (hv : Vis (defScope st) a) (hd : (a == ("__debug__" : Str)) = false) (hcd : (a == ("__classdict__" : Str)) = false)
    (hgd : X.A.guards = some []) (hr : Room (j + 2) X.A) (B : TabB X.base X.mg c P) (hcode : X.env.code = .ref c) (hq : q = X.env.qual ++ "<lambda>") (hO : O P = some (.tab q)) (Ls : LamS X.env.scope scope) (hdef : defaultsOf params X.env = ([], []))
    (hbind : ∀ (q : Str) (cl : List (Str × Addr)) (pm cv ctv : Value),
        bindArgs (PySem.W.kla_fn "<lambda>" q params body scope cl pm cv ctv) ⟨[], []⟩ = pure [])
    (hbody : ∀ (A : Around) (outer : List Env) (s : Shared) (H : Hp) (E : XK) (f c' : Addr), A.guards = some [] → Room j (A.deeper (lamEnv X scope s.heap.objs.size f c')) → ∀ (L0 : Lg) (O : Ow) (k : KD) (kx : KX), S [] O k kx →
      Tx (lamCx X A outer s H E scope f c') L0 (fun C fds _ O' => kx C fds O') → WEx (lamCx X A outer s H E scope f c') L0 body Γ O k)
    (hG : ∀ (g f : Addr) (cdv : Value) (A : Around) (outer : List Env) (s : Shared) (H : Hp) (E : XK) (L0 : Lg), A.guards = some [] → Room (j + 1) (A.deeper (envOfC x (defScope st) s.heap.objs.size g cdv)) →
      (∀ pn xe, Act ((Bo X.prog X.w X.K X.mg X.base Ng x st g cdv A outer s H E).tr pn xe) f a S L0) →
      WSsx (Bo X.prog X.w X.K X.mg X.base Ng x st g cdv A outer s H E) L0 (defBody st) (gst Ng.length [.own f]) O { nx := fun _ O' => Ret k .non O', rt := Ret k }) :
    WE X (.Call (.Name x p) [.Lambda params body scope lpos] [] pos) Γ O k := fun σ L H hsl hR Q q0 pins s I => by
  obtain ⟨g, fd, hm, F, hb, hk⟩ := T.ex
  refine wpAny_Call_Name_kw (ld_glob I gl hm ?_ db)
  refine PySem.W.callWith_K (h₀ :=
      X.base) I.ok.mod.kin hk ?_ (by rfl) (by rfl)
  show wpAny _ _ (spliced ((false,
      eval (.Lambda params body scope lpos) X.env) :: backTo pos (starEach [] X.env))) _ _ s
  obtain ⟨_, ps, hP, ht, ha⟩ := hR.ow _ _ hO
  refine Calls.spliced_cons (lam_new (G := fun c' => L.hp c' = some (CodeO c' q)) I B hcode hq hP ht (fun p' cv hc => by
    obtain ⟨c', e1, e2⟩ := ha p' cv hc
    exact ⟨c', e1, e2, hR.hp _ _ e2⟩) hdef Ls fun f c' pm ctv H1 s' I1 hH hf hfn hfr => ?_)
  obtain ⟨L1, le1, hco, r1⟩ := hR.lam hO hP ht ha hH
  refine Calls.spliced_nil ⟨I1.kIn,
      ?_⟩
  obtain ⟨_, _, _, _, _, _, _, cdv, _, _, ef, lk, hcd2⟩ := F.ex
  rw [(fn_same st).1, (fn_same st).2.1, (fn_same st).2.2] at ef
  subst ef
  have rc : codeAny (model X.prog X.w) X.A (.call (.ref g) ⟨[.ref f], []⟩) (CR CX0 X.stack X.prog X.w H1 s' Q (fun _ _ _ => False)) s' := by
    refine LamX.run_ofS (N := Ng) (ps := [a]) (us := [.ref f]) (vs := [.ref f]) lk hcd2 Sc hr I1.env0 (hb s' [.ref f] I1.kIn rfl) (.cons rfl .nil) rfl fun hr' => ?_
    have act : ∀ pn xe, Act ((Bo X.prog X.w X.K X.mg X.base Ng x st g cdv X.A X.stack s' H1 (fun _ _ _ => False)).tr pn xe) f a S L1 := fun pn xe =>
      act_mk I1 Ls (hsl.mono le1) (by rw [hco, hq]) hf hfn hfr (hbind _ _ _ _ _) hgd hr' (fun A outer s H E hg hr2 L0 O k kx h0 tx => hbody A outer s H E f c' hg hr2 L0 O k kx h0 tx) hN hv hd hcd
    have z := hG g f cdv X.A X.stack s' H1 (fun _ _ _ => False) L1 hgd hr' act (start Ng [.ref f]) L1 H1 (.refl _) (sl_start (.cons (.own f) .nil)) r1 { nx := fun _ H' => Q .non H', rt := Q }
      ⟨fun Γ' O' σ' L' H' a le _ r => fol_ret (q0.le le1) .non .non O' L' H' a le .non r, fol_ret (q0.le le1), fun _ _ _ _ _ a => a.elim, fun _ _ _ _ _ a => a.elim⟩
    exact ⟨_, PSs.nox (pssu (X := (cxOf CX0 X.prog X.w X.K X.mg X.base Ng x (defScope st) g cdv X.A X.stack s' H1 (fun _ _ _ => False)).nox) (defBody st)), z⟩
  refine wpAny_call (codeAny_mono
      rc fun r s2 hq => ?_)
  match r, hq with
  | .ok (.ret u), hq => exact I1.after hq
  | .ok .next, hq => exact hq.elim
  | .ok .brk, hq => exact hq.elim
  | .ok .cont, hq => exact hq.elim
  | .error e, hq => exact hq.elim
end
end DL
/-! DL, part W: the law's own call where its def makes lambdas -/
namespace DL
open L2 PySem
open PySem.Spec PyProof.Rows
open LamX (TabB)
/-- the law, its table of code objects at hand -/
def sLawT (n : Nat) (P : Addr) (q : Str) : SpD := fun ds O k _ => ∃ ns : List Int, ds = [.scr (ns.map .int)] ∧ ns.length ≤ n ∧ O P = some (.tab q) ∧ ∀ O', k (.bl true) O'
theorem lawGT {P : Program} {w : World} {K : PySem.W.Frag} {mg mb : Str → Option Value} {n j : Nat} {fa a c T : Addr} {q : Str} {fd : FuncData} {x : Str} {s₁ : Shared} {vs : List Value} {ns : List Int}
    (KX : K.In s₁.heap) (hns : s₁.heap.Ns mainGlobals mg) (hb : s₁.heap.Ns builtinsNs mb) (hbb : ∀ x : Str,
        x ≠ "__name__" → mb x = bootBuiltins x) (hlim : s₁.heap.NoLimit) (hg : s₁.gens = #[])
    (hT : s₁.heap.get? T = some { cls := .none, data := .fields #[] }) (nT : K.lookup T = none) (hC : PySem.W.CodeHd s₁.heap c T)
    (hbm : ∃ (bm : Addr) (ob : Obj),
        mg "__builtins__" = some (.ref bm) ∧ bm ≠ builtinsNs ∧ s₁.heap.get? bm = some ob ∧ ob.cls = .type "module" ∧ ob.dict = some builtinsNs ∧ ob.data = .plain)
    (ha : s₁.heap.get? a = some { cls := .type "list", data := .seq vs.toArray }) (hi : IntsAre vs ns) (hn : ns.length ≤ n) (hn2 : n ≤ sizeLine) (hr : Room j callerA)
    (F : ∀ base : Heap, K.In base → base.Ns mainGlobals mg → TabB base mg c T → FnG P w K mg base CX0 j fa fd [x] (spOf K (sLawT n T q))) (hbind : ∀ (s : Shared) (u : Value), BindsTo s fd ⟨[u], []⟩ [(x, u)]) :
    codeAny (model P w) callerA (.call (.ref fa) ⟨[.ref a],
        []⟩) (fun r s' => r = .ok (.ret (.bool true)) ∧ OldK s₁.heap s'.heap ∧ s'.os = s₁.os ∧ AllBare s'.gens) s₁ := by
  obtain ⟨H0, hS, hok0, hO⟩ := script_heap (P := P) (w := w) KX ha (vals_ints hi) (Nat.le_trans hn hn2)
  have aT : T ≠ a := fun z => by
    rw [z, ha] at hT
    cases hT
  have n0 : H0 T = none := by
    cases q : H0 T with
    | none => rfl
    | some u => exact absurd (hO T u q).1 aT
  let H : Hp := upd H0 T (.tbl #[])
  have at0 : ∀ {b : Addr} {u : HO}, H0 b = some u → H b = some u := fun {b u} e => by
    show upd H0 T (.tbl #[]) b = some u
    rw [upd_ne (ne_of_none e n0)]; exact e
  -- what is tracked: the script, the table
  have cases_ : ∀ {b : Addr} {u : HO}, H b = some u → (b = T ∧ u = .tbl #[]) ∨ (b ≠ T ∧ H0 b = some u) := fun {b u} e => by
    have e : upd H0 T (.tbl #[]) b = some u := e
    by_cases h : b = T
    · subst h; rw [upd_same] at e; exact .inl ⟨rfl, (Option.some.inj e).symm⟩
    · rw [upd_ne h] at e; exact .inr ⟨h, e⟩
  have hok : HOk P w H s₁.heap := fun b u e => by
    rcases cases_ e with ⟨rfl, rfl⟩ | ⟨_, e0⟩
    · exact hT
    · obtain ⟨_, _, o, xs, rfl⟩ := hO b u e0
      exact hok0 b _ e0
  have free : ∀ {b : Addr} {o : Obj}, s₁.heap.get? b = some o → (∀ vs n, o.data ≠ .seq vs n) → o.data ≠ .fields #[] → (hidT s₁.heap H).get? b = some o := fun {b o} e h1 h2 => hidT_get e (by
    cases q : H b with
    | none => rfl
    | some u =>
      rcases cases_ q with ⟨rfl, _⟩ | ⟨_, e0⟩
      · rw [hT] at e; cases e; exact absurd rfl h2
      · obtain ⟨rfl, _⟩ := hO b u e0
        rw [ha] at e; cases e; exact absurd rfl (h1 _ _))
  have ns_base : ∀ {b : Addr} {m : Str → Option Value}, s₁.heap.Ns b m → (hidT s₁.heap H).Ns b m := fun {b m} ⟨o, es, ep, e, d, r⟩ => ⟨o, es, ep, free e (fun vs n z => by rw [d] at z; cases z) (fun z => by rw [d] at z; cases z), d, r⟩
  have K_base : K.In (hidT s₁.heap H) := fun b o e => hidT_get (KX b o e) (by
    cases q : H b with
    | none => rfl
    | some u =>
      rcases cases_ q with ⟨rfl, _⟩ | ⟨_, e0⟩
      · rw [nT] at e; cases e
      · obtain ⟨_, z, _⟩ := hO b u e0
        rw [z] at e; cases e)
  have md : L2.Mod K mg (hidT s₁.heap H) := ⟨K_base, ns_base hns, ⟨mb, ns_base hb, hbb⟩, by
    obtain ⟨mc, l1, l2⟩ := hlim
    exact ⟨mc, ns_base l1, l2⟩⟩
  have tb : TabB (hidT s₁.heap H) mg c T := by
    refine ⟨?_, ?_, fun z => ?_⟩
    · obtain ⟨o, us, file, tf, flags, tg, inF, text, tt, e1, r1, r2, r3, rest⟩ := hC
      refine ⟨o, us, file, tf, flags, tg, inF, text, tt, free e1 (fun vs n z => ?_) (fun z => ?_), r1, r2, r3, rest⟩
      · rw [r2] at z; cases z
      · rw [r2] at z; cases z; simp at r3
    · obtain ⟨bm, ob, b1, b2,
          b3, b4, b5, b6⟩ := hbm
      refine ⟨bm, ob, b1, b2, fun z => ?_, fun z => ?_, free b3 (fun vs n z => ?_) (fun z => ?_), b4, b5, b6⟩
      · obtain ⟨o, es, ep,
            e, hd, _⟩ := hns
        rw [z, e] at b3; cases b3; rw [hd] at b6; cases b6
      · rw [z, hT] at b3; cases b3; cases b6
      · rw [b6] at z; cases z
      · rw [b6] at z; cases z
    · obtain ⟨o, es, ep,
          e, hd, _⟩ := hns
      rw [z, hT] at e; cases e; cases hd
  have e0 : Env0 P w K mg (hidT s₁.heap H) callerA [] s₁ H := ⟨rfl, md, fun b o e => of_hidT e, Nat.le_of_eq (hidT_size _ _), trivial, fun b z => (nomatch z), hok, .of_eq hg⟩
  have sp : spOf K (sLawT n T q) [.ref a] H (fun v _ => v = .bl true) (fun _ _ _ => False) := by
    refine ⟨[.scr (ns.map .int)], ⟨H0, fun _ => none⟩, put (fun _ => none) T (.tab q), fun d _ => d = .bl true, fun _ _ _ => False, ?_, ?_, ⟨ns, rfl, hn, put_same, fun _ => rfl⟩, ?_, fun _ _ _ _ _ _ _ z => z.elim⟩
    · exact .cons (.scr hS (is_ints ns)) .nil
    · refine ⟨fun b o e => at0 e, fun _ _ z => (nomatch z), fun b od e => ?_⟩
      by_cases h : b = T
      · subst h
        rw [put_same] at e
        cases e
        exact ⟨n0, #[], upd_same, True.intro, fun p' cv hc => by
          have z : codeAmong p' [] = some cv := hc
          simp [codeAmong] at z⟩
      · rw [put_ne h] at e; cases e
    · rintro v d O' L' H' rfl _ i _
      exact i.bl'
  refine codeAny_mono ((F _ K_base (ns_base hns) tb).go callerA [] s₁ H ⟨[.ref a], []⟩ [.ref a] [.ref a] _ _ rfl hr e0 (hbind s₁ (.ref a)) (.cons rfl .nil) sp) fun r s' h => ?_
  match r, h with
  | .error _, h => exact h.elim
  | .ok .next, h => exact h.elim
  | .ok .brk, h => exact h.elim
  | .ok .cont, h => exact h.elim
  | .ok (.ret u), ⟨v, H', os, bare, un, hok', rv, q⟩ =>
    have q' : v = .bl true := q
    subst q'
    obtain rfl : u = Value.bool true := rv
    have key : ∀ b o, b ≠ T → s₁.heap.get? b = some o → s'.heap.get? b = some o := fun b o nb e => by
      cases qb : H b with
      | none => exact un.keep b o e qb (by intro z; exact nomatch z) (by intro z; exact nomatch z)
      | some t =>
        rcases cases_ qb with ⟨z, _⟩ | ⟨_, e0⟩
        · exact absurd z nb
        · obtain ⟨_, _, ob, xs, rfl⟩ := hO b t e0
          have k1 := (hok b _ qb).1
          have k2 := (hok' b _ (un.frzs b ob _ qb)).1
          rw [e] at k1
          obtain rfl := Option.some.inj k1
          exact k2
    obtain ⟨more, hm⟩ : ∃ more : Array Value, s'.heap.get? T = some { cls := .none, data := .fields more } := by
      obtain ⟨more, z⟩ := un.tbls T #[] upd_same
      exact ⟨_, hok' T _ z⟩
    refine ⟨rfl, ⟨fun b o e => ?_,
        fun b o e => ?_⟩, os, bare⟩
    · by_cases h : b = T
      · subst h
        rw [hT] at e
        cases e
        exact .inr (.inl ⟨(hC.tab hT).isCodeTable, rfl, #[], more, rfl, by rw [Array.empty_append]; exact hm⟩)
      · exact .inl (key b o h e)
    · by_cases h : b = T
      · subst h; exact ⟨_, hm⟩
      · exact ⟨o, key b o h e⟩
/-- a def's body keeps its promise, its code object known -/
theorem FnG.bodyC {P : Program} {w : World} {K : PySem.W.Frag} {mg : Str → Option Value} {base : Heap} {x qual : Str} {st : Stmt} {f : Addr} {fd : FuncData} {N ps : List Str} {k : Nat} {S : SpD}
    (F : FunX K x qual st f fd) (Sc : FnScope N ps (defScope st)) (len : ∀ ds O k kx, S ds O k kx → ds.length = ps.length)
    (h : ∀ (A : Around) (outer : List Env) (s : Shared) (H : Hp) (E : XK), A.guards = some [] → Room k (A.deeper (envOfC qual (defScope st) s.heap.objs.size f fd.code)) → ∀ ds O k kx, S ds O k kx →
      WSs (Bo P w K mg base N qual st f fd.code A outer s H E) (defBody st) (gst N.length ds) O { nx := fun _ O' => Ret k .non O', rt := Ret k }) : FnG P w K mg base CX0 (k + 1) f fd ps (spOf K S) := by
  obtain ⟨_, _, _, _, _, _, _, cdv, _, _, ef, lk, hcd⟩ := F.ex
  rw [(fn_same st).1, (fn_same st).2.1, (fn_same st).2.2] at ef
  subst ef
  refine ⟨fun vs H Q E ⟨ds, L, O, k, kx, hi, _, hs, _⟩ => hi.length.trans (len ds O k kx hs), fun A outer s H args us vs Q E hg hr e0 hb rv hsp => ?_⟩
  have hl : vs.length = ps.length := by
    obtain ⟨ds, L, O, k, kx, hi, _, hs, _⟩ := hsp
    exact hi.length.trans (len ds O k kx hs)
  refine LamX.run_ofS (N := N) lk hcd Sc hr e0 hb rv hl fun hr' => ?_
  obtain ⟨ds, L, O, k, kx, hi, hR, hS, hk, _⟩ := hsp
  have z := h A outer s H E hg hr' ds O k kx hS (start N vs) L H (sl_start hi) hR { nx := fun _ H' => Q .non H', rt := Q }
    ⟨fun Γ' O' σ' L' H' a le _ r => fol_ret hk .non .non O' L' H' a le .non r, fol_ret hk, fun _ _ _ _ _ a => a.elim, fun _ _ _ _ _ a => a.elim⟩
  exact ⟨_, PSs.nox (pssu (X := (cxOf CX0 P w K mg base N qual (defScope st) f cdv A outer s H E).nox) (defBody st)), z⟩
/-- the law's own def, its code object at c -/
def PlC (P : Program) (w : World) (K : PySem.W.Frag) (mg : Str → Option Value) (base : Heap) (x : Str) (st : Stmt) (ps : List Str) (c : Addr) (j : Nat) (S : SpD) : Prop := ∀ (f : Addr) (fd : FuncData), fd.code = .ref c → FunX K x x st f fd → FnG P w K mg base CX0 j f fd ps (spOf K S)
theorem PlC.of {P : Program} {w : World} {K : PySem.W.Frag} {mg : Str → Option Value} {base : Heap} {x : Str} {st : Stmt} {N ps : List Str} {c : Addr} {j : Nat} {S : SpD} (Sc : FnScope N ps (defScope st)) (len : ∀ ds O k kx, S ds O k kx → ds.length = ps.length)
    (h : ∀ (f : Addr) (A : Around) (outer : List Env) (s : Shared) (H : Hp) (E : XK), A.guards = some [] → Room j (A.deeper (envOfC x (defScope st) s.heap.objs.size f (.ref c))) → ∀ ds O k kx, S ds O k kx →
      WSs (Bo P w K mg base N x st f (.ref c) A outer s H E) (defBody st) (gst N.length ds) O { nx := fun _ O' => Ret k .non O', rt := Ret k }) : PlC P w K mg base x st ps c (j + 1) S := fun f fd hc F => .bodyC F Sc len (by rw [hc]; exact h f)
theorem law_endC {K : PySem.W.Frag} {mg : Str → Option Value} {P : Program} {w : World} {h : Heap} {x p q : Str} {st : Stmt} {j n : Nat} {fa c T : Addr} (X : K.In h) (G : h.Ns mainGlobals mg) (hfa : mg x = some (.ref fa)) (D : Dn K x st) (ht : PySem.W.tabIn K x = some (c, T))
    (b : ∀ (kV doc pm : Value) (an : Option Addr) (cdv ct u : Value), bindArgs (PySem.W.fnOf x x (defArgs st) (defBody st) (defScope st) .none kV doc pm an cdv ct) ⟨[u], []⟩ = pure [(p, u)])
    (F : ∀ base : Heap, K.In base → base.Ns mainGlobals mg → TabB base mg c T → PlC P w K mg base x st [p] c j (sLawT n T q)) :
    ∃ fd : FuncData, (∀ (s : Shared) (u : Value), BindsTo s fd ⟨[u], []⟩ [(p, u)]) ∧ ∀ base : Heap, K.In base → base.Ns mainGlobals mg → TabB base mg c T → FnG P w K mg base CX0 j fa fd [p] (spOf K (sLawT n T q)) := by
  cases D with
  | mk a l cc k =>
    have e := hfa.symm.trans (PySem.W.mg_of X G a)
    cases e
    exact ⟨_, fun s u => .of_eq (b _ _ _ _ _ _ u), fun base i n tb => F base i n tb _ _ (PySem.W.law_code X G ht hfa (X _ _ l) rfl) (funx_mk l cc)⟩
theorem walkGT {l : PySem.W.OpenLaw} {n j : Nat} {q : Program} {loose : List Str} {XP : (Str → Option Value) → Heap → Prop} {YP : World → Heap → Prop} {d dr : DefRec} {Kf : Params → PySem.W.Frag} {x lx qn : Str} {c T : Addr}
    (hn : l.most = some n) (hn2 : n ≤ sizeLine) (hdf : d.params.defaults = []) (hr : Room j callerA) (hY : ∀ (w : World) (h : Heap), YP w h → (Kf w.params).In h)
    (hrec : (recsOf q).find? (fun e => e.name == lx) = some dr)
    (F : ∀ (w : World) (mg : Str → Option Value) (fa : Addr) (h : Heap), (Kf w.params).In h → h.Ns mainGlobals mg → mg d.name = some (.ref fa) → PySem.W.tabIn (Kf w.params) lx = some (c, T) ∧ (Kf w.params).lookup T = none ∧ ∃ fd : FuncData, (∀ (s : Shared) (u : Value), BindsTo s fd ⟨[u], []⟩ [(x, u)]) ∧
      ∀ base : Heap, (Kf w.params).In base → base.Ns mainGlobals mg → TabB base mg c T → FnG l.prog w (Kf w.params) mg base CX0 j fa fd [x] (spOf (Kf w.params) (sLawT n T qn))) :
    PySem.W.WalkO q loose XP YP l.row.toRowW d [] (fun
        f vs => PySem.call f vs) := by
  refine Att.attach_call hn hdf fun w s₀ s₁ mg mb fa o pm
      cd doc a vs ns G Y ho hd hcd hmg hobj hints hlen hg => ?_
  have KX := hY w _ Y
  obtain ⟨ht, nT, fd, hb, hF⟩ := F w mg fa _ KX G.T.g hmg
  obtain ⟨hC, hT⟩ := PySem.W.tab_of G.T KX hrec ht
  exact lawGT KX G.T.g G.T.b G.T.builtins G.T.nolimit hg hT nT hC G.T.bmain hobj hints hlen hn2 hr hF hb
end DL
/-! DL, part X: methods by keywords that may raise; == of an own thing and something else; list.index; == of dicts -/
namespace DL
open L2 PySem
open PySem.Spec PyProof.Rows
section
variable {X : Cx} {L0 : Lg} {kg : KG} {Γ : Sg} {O : Ow} {k : KD} {De : DE}
/-- a method called by keywords, it may raise -/
structure KmkX (X : Cx) (C : Addr) (m : Str) (j : Nat) (S : SpD) (ks : List Str) (gD : List D → List D → List D) : Prop where
  ex : ∃ (f : Addr) (fd : FuncData) (ps : List Str) (g : List Value → List Value → List Value) (gV : List V → List V → List V), FnG X.prog X.w X.K X.mg X.base (L2.CX X.prog X.w) j f fd ps (spOf X.K S) ∧ Meth X.K C m f ∧ KBn X.K fd ps 1 ks g gV ∧ GOk X.K gV gD
  cl : Cls X.K C
theorem we_methKX {C : Addr} {m : Str} {j : Nat} {S : SpD} {ks : List Str} {gD : List D → List D → List D} {o : Expr} {kws : List Keyword} {apos pos : Pos} {pl : Sem Bool} (F : KmkX X C m j S ks gD) (tx : Tx X L0 kg) (hgd : X.A.guards = some []) (hr : Room j X.A)
    (hall : (backToKw pos (keywordEach kws X.env)).all (·.1.isSome) = true) (hks : (backToKw pos (keywordEach kws X.env)).filterMap (·.1) = ks)
    (hpl : ((backTo pos (starEach [] X.env)).any (·.1) || (backToKw pos (keywordEach kws X.env)).any (·.1.isNone)) = false)
    (ht : eval (.Call (.Attribute o m apos) [] kws pos) X.env = (do
      let obj ← eval o X.env
      standAt apos.atName
      let (fn, head) ← holding [obj] (getMethod obj m pl)
      callWith pos fn head (backTo pos (starEach [] X.env)) (backToKw pos (keywordEach kws X.env))))
    (h : WE X o Γ O fun x O1 => ∃ fds, InD O1 x C fds ∧ fds.lookup m = none ∧ WK X kws Γ O1 fun ds O2 => ds.length = ks.length ∧ S (gD [x] ds) O2 k fun Ce fe O3 => kg Ce fe Γ O3) : WEx X L0 (.Call (.Attribute o m apos) [] kws pos) Γ O k := fun σ L H l0 hs hR Q q pins s I => by
  obtain ⟨W, tk, tw⟩ := tx.ex
  obtain ⟨f, fd, ps, g, gV, G, hm, hb, hG⟩ := F.ex
  refine PySem.W.methodCall_KW (pl := pl) (thn (h σ L H hs hR (fun v H1 => ∃ x O1 L1, (∃ fds, InD O1 x C fds ∧ fds.lookup m = none ∧ WK X kws Γ O1 fun ds O2 => ds.length = ks.length ∧ S (gD [x] ds) O2 k fun Ce fe O3 => kg Ce fe Γ O3) ∧ L.le L1 ∧ Is X.K L1 v x ∧ R X.K L1 O1 H1) (fun v x O1 L1 H1 a b c d => ⟨x, O1, L1, a, b, c, d⟩) pins s I)
    fun u s1 ⟨v, H1, I1, rv, x, O1, L1, ⟨fds, hi, hl, h2⟩, le1, is1, r1⟩ => ?_) ht
  obtain ⟨a, dx, fs, rfl, g1, g2, g3⟩ := inD_of r1 hi is1
  obtain rfl : u = Value.ref a := rv
  refine getmeth_ok I1 g1 F.cl hm ((lookup_is g2 g3).2 hl) ?_
  refine PySem.W.callWith_KW0 (first := [.ref a]) (h₀ := X.base) I1.ok.mod.kin hm.kp hall (thn (h2 σ L1 H1 (hs.mono le1) r1 (fun vs H2 => ∃ ds O2 M2, (ds.length = ks.length ∧ S (gD [x] ds) O2 k fun Ce fe O3 => kg Ce fe Γ O3) ∧ L1.le M2 ∧ IsL X.K M2 vs ds ∧ R X.K M2 O2 H2) (fun vs ds O2 M2 H2 a b c d => ⟨ds, O2, M2, a, b, c, d⟩) pos pins s1 I1)
    fun us s2 ⟨vs, H2, I2, rvs, ds, O2, M2, ⟨h3, h4⟩, le2, is2, r2⟩ => ⟨I2.kIn, ?_⟩) hpl
  rw [hks]
  have le := le1.trans le2
  have sp : spOf X.K S (gV [.ref a] vs) H2 Q (fun cls d H' => W cls d σ H') := ⟨_, M2, O2, k, _, hG M2 _ _ _ _ (.cons (is1.mono le2) .nil) is2, r2, h4, q.le le, fun Ce d fs fe O3 L3 H3 hk le3 a b c r3 =>
    tw Ce d fs fe Γ O3 σ L3 H3 hk (l0.trans (le.trans le3)) (hs.mono (le.trans le3)) a b c r3⟩
  have b := hb.to s2 [.ref a] us I2.kIn rfl (by rw [← rvs.length, is2.length]; exact h3)
  refine wpAny_call (codeAny_mono (G.go X.A X.stack s2 H2 ⟨[.ref a], ks.zip us⟩ (g [.ref a] us) (gV [.ref a] vs) Q _ hgd hr I2.env0 b (hb.rel (.cons rfl .nil) rvs) sp) fun r s' hq => ?_)
  match r, hq with
  | .ok (.ret u), hq => exact I2.after hq
  | .ok .next, hq => exact hq.elim
  | .ok .brk, hq => exact hq.elim
  | .ok .cont, hq => exact hq.elim
  | .error e, hq => exact tk _ _ (XE.of_call I2 (fun _ _ _ h => h) hq)
end
section
variable {base : Heap} {mg : Str → Option Value} {K : PySem.W.Frag} {w : World} {P : Program}
structure PkkX (P : Program) (w : World) (K : PySem.W.Frag) (mg : Str → Option Value) (base : Heap) (C : Addr) (m : Str) (j : Nat) (S : SpD) (ks : List Str) (gD : List D → List D → List D) : Prop where
  ex : ∃ (f : Addr) (fd : FuncData) (ps : List Str) (g : List Value → List Value → List Value) (gV : List V → List V → List V), FnG P w K mg base (L2.CX P w) j f fd ps (spOf K S) ∧ Meth K C m f ∧ KBn K fd ps 1 ks g gV ∧ GOk K gV gD
  cl : Cls K C
theorem PkkX.kmk {C : Addr} {m : Str} {j : Nat} {S : SpD} {ks : List Str} {gD : List D → List D → List D} (F : PkkX P w K mg base C m j S ks gD) {X : Cx} (e1 : X.prog = P) (e2 : X.w = w) (e3 : X.K = K) (e4 : X.mg = mg) (e5 : X.base = base) : KmkX X C m j S ks gD := by
  subst e1 e2 e3 e4 e5
  exact ⟨F.ex, F.cl⟩
/-- how what is given and what lacks is put together: by places -/
def gI (ix : List Nat) {α : Type} (us mv ws : List α) : List α := ix.filterMap fun i => (us ++ mv ++ ws)[i]?
theorem vals_at : ∀ {vs : List V} {us : List Value} (i : Nat), Vals vs us → (vs[i]? = none ∧ us[i]? = none) ∨ ∃ v u, vs[i]? = some v ∧ us[i]? = some u ∧ RelV v u
  | _, _, i, .nil => .inl ⟨by simp, by simp⟩
  | _, _, 0, .cons r t => .inr ⟨_, _, rfl, rfl, r⟩
  | _, _, i + 1, .cons r t => by simpa using vals_at i t
theorem vals_app : ∀ {vs ws : List V} {us zs : List Value}, Vals vs us → Vals ws zs → Vals (vs ++ ws) (us ++ zs)
  | _, _, _, _, .nil, s => s
  | _, _, _, _, .cons r t, s => .cons r (vals_app t s)
theorem gI_rel (ix : List Nat) {vs mz zs : List V} {us mv ws : List Value} (h1 : Vals vs us) (h2 : Vals mz mv) (h3 : Vals zs ws) : Vals (gI ix vs mz zs) (gI ix us mv ws) := by
  have h := vals_app (vals_app h1 h2) h3
  unfold gI
  induction ix with
  | nil => exact .nil
  | cons i ix ih =>
    rw [List.filterMap_cons, List.filterMap_cons]
    rcases vals_at i h with ⟨e1, e2⟩ | ⟨v, u, e1, e2, r⟩
    · rw [e1, e2]; exact ih
    · rw [e1, e2]; exact .cons r ih
theorem is_at {L : Lg} : ∀ {vs : List V} {ds : List D} (i : Nat), IsL K L vs ds → (vs[i]? = none ∧ ds[i]? = none) ∨ ∃ v u, vs[i]? = some v ∧ ds[i]? = some u ∧ Is K L v u
  | _, _, i, .nil => .inl ⟨by simp, by simp⟩
  | _, _, 0, .cons r t => .inr ⟨_, _, rfl, rfl, r⟩
  | _, _, i + 1, .cons r t => by simpa using is_at i t
theorem gI_is (ix : List Nat) {L : Lg} {vs mz zs : List V} {ds es fs : List D} (h1 : IsL K L vs ds) (h2 : IsL K L mz es) (h3 : IsL K L zs fs) : IsL K L (gI ix vs mz zs) (gI ix ds es fs) := by
  have h := (h1.append h2).append h3
  unfold gI
  induction ix with
  | nil => exact .nil
  | cons i ix ih =>
    rw [List.filterMap_cons, List.filterMap_cons]
    rcases is_at i h with ⟨e1, e2⟩ | ⟨v, u, e1, e2, r⟩
    · rw [e1, e2]; exact ih
    · rw [e1, e2]; exact .cons r ih
/-- ks are given, ms lack; ix: where each parameter's value stands among self, those of ms, those of ks -/
theorem PkkX.of {C : Addr} {m qual : Str} {st : Stmt} {N ps : List Str} {j : Nat} {S : SpD} {kws : List (Str × V)} (T : Dnk K C m qual st kws) (c : Cls K C) (Sc : FnScope N ps (defScope st)) (len : ∀ ds O k kx, S ds O k kx → ds.length = ps.length)
    (h : ∀ (f : Addr) (cdv : Value) (A : Around) (outer : List Env) (s : Shared) (H : Hp) (E : XK), A.guards = some [] → Room j (A.deeper (envOfC qual (defScope st) s.heap.objs.size f cdv)) → ∀ L0 ds O k kx, S ds O k kx →
      Tx (Bx P w K mg base N qual st f cdv A outer s H E) L0 (fun C fds _ O' => kx C fds O') →
      WSsx (Bx P w K mg base N qual st f cdv A outer s H E) L0 (defBody st) (gst N.length ds) O { nx := fun _ O' => Ret k .non O', rt := Ret k })
    (ks : List Str) (ms : List (Str × V)) (es : List D) (ix : List Nat) (hms : ∀ q ∈ ms, q ∈ kws) (hes : ∀ L, IsL K L (ms.map (·.2)) es)
    (hb : ∀ (Dk : Addr) (doc pm : Value) (an : Option Addr) (cdv ct : Value) (us mv ws : List Value), us.length = 1 → mv.length = ms.length → ws.length = ks.length →
      KwChain Dk ((ms.map (·.1)).zip mv) (bindArgs (PySem.W.fnOf m qual (defArgs st) (defBody st) (defScope st) .none (.ref Dk) doc pm an cdv ct) ⟨us, ks.zip ws⟩) (ps.zip (gI ix us mv ws))) : PkkX P w K mg base C m (j + 1) S ks (fun ds fs => gI ix ds es fs) := by
  cases T with
  | mk a i l c2 kp wl =>
    obtain ⟨mv, hl, rk, hks⟩ := kwd_vals (ms := ms) fun q hm => wl.all q (hms q hm)
    have hG : GOk K (fun vs zs => gI ix vs (ms.map fun q => q.2) zs) (fun ds fs => gI ix ds es fs) := fun L vs ds zs fs h1 h3 => gI_is ix h1 (hes L) h3
    have hB : ∀ doc pm an cdv ct, KBn K (PySem.W.fnOf m qual (defArgs st) (defBody st) (defScope st) .none (.ref _) doc pm an cdv ct) ps 1 ks (fun us ws => gI ix us mv ws) (fun vs zs => gI ix vs (ms.map fun q => q.2) zs) := fun doc pm an cdv ct =>
      ⟨fun s us ws X l1 l2 => L2.BindsTo.of_looks fun M => KwChain.looks X hks (hb _ doc pm an cdv ct us mv ws l1 hl l2), fun r1 r2 => gI_rel ix r1 rk r2⟩
    exact ⟨⟨_, _, ps, _, _, fn_bodyX (funx_mk l c2) Sc len (h _), ⟨a, i, kp⟩, hB _ _ _ _ _, hG⟩, c⟩
end
section
variable {X : Cx} {L0 : Lg} {Γ : Sg} {O : Ow} {k : KD} {De : DE}
/-- an own thing == a text | a number: its own == is asked -/
theorem wo_eqOwnF {x y : D} {fds : List (Str × D)} {C : Addr} {j : Nat} {S : SpD} {T : String} (F : Km X C "__eq__" j S) (hgd : X.A.guards = some []) (hr : Room j X.A) (hx : InD O x C fds) (hy : (∃ z, y = .str z ∧ T = "str") ∨ ∃ i, y = .int i ∧ T = "int") (hn : PySem.W.notFirst X.K C (.type T) = true)
    (h : S [x, y] O k fun _ _ _ => False) : WO X (compareOp .Eq) x y O k := fun vx vy L H ix iy hR Q q => by
  obtain ⟨a, dx, fs, rfl, ha, _, _⟩ := inD_of hR hx ix
  obtain ⟨f, fd, ps, G, M, bd⟩ := F.ex
  intro pins s σ v u I rx ry
  cases rx
  obtain ⟨mA, J,
      _⟩ := ins_get I.hok ha
  obtain ⟨od, J, _⟩ := J.look
  obtain ⟨m, hF⟩ := I.fr
  have ht : PySem.W.Looks (model X.prog X.w) s.heap (typeOf u) (.type T) := by
    rcases hy with ⟨z, rfl, rfl⟩ | ⟨z, rfl, rfl⟩
    · obtain rfl := iy.str'
      obtain ⟨t, rfl⟩ := ry
      exact PySem.W.Looks.of_pure
          rfl
    · obtain rfl := iy.int'
      obtain ⟨t, rfl⟩ := ry
      exact PySem.W.Looks.of_pure
          rfl
  refine PySem.W.cmp_K (op := .Eq) (tb := .type T) hr.units0 hF I.ok.mod.kin J ht hn M.at_ M.fn ?_
  refine wpAny_mono (run_gA (us := [.ref a, u]) (vs := [.ref a, vy]) G hgd hr I.env0 bd I (.cons rfl (.cons ry .nil)) (sp_of h (.cons ix (.cons iy .nil)) hR q)) (fun w s' z => ?_) fun _ _ e => e
  obtain ⟨z', H',
      I', rz, qz⟩ := z
  exact cmp_back rz ⟨z', H', I', rz, qz⟩
/-- xs.index(x), found -/
theorem wm_index {xs : List Str} {x : Str} {j : Nat} (hj : xs[j]? = some x) (ha : ∀ m, m < j → xs[m]? ≠ some x) (h : k (.int (j : Int)) O) : WM X "list.index" (.lst (xs.map .str)) [.str x] O k := fun vx vs L H ix is hr Q q => by
  obtain ⟨v, rfl, i1⟩ := is.one'
  obtain rfl := i1.str'
  obtain ⟨p, us, rfl, s, t⟩ := sqD_of hr sq_lst ix
  have e : us = xs.map V.str := by
    have e := isL_v (X := X) (vs := us) (ds := xs.map D.str) (by rw [List.all_map]; exact List.all_eq_true.mpr fun _ _ => rfl) t
    rw [e, List.map_map]
    rfl
  subst e
  refine toM mt_index ⟨p, xs.map V.str, .str x, j, .str x, rfl, rfl, s, rfl, by rw [List.all_map]; exact List.all_eq_true.mpr fun _ _ => rfl, by rw [List.getElem?_map, hj]; rfl, by simp [eqV], fun m z' hm hz => ?_, q _ _ _ _ _ h (.refl L) (.int _) hr⟩
  rw [List.getElem?_map] at hz
  cases e : xs[m]? with
  | none => rw [e] at hz; cases hz
  | some y =>
    rw [e] at hz
    obtain rfl : V.str y = z' := by simpa using hz
    have ne : y ≠ x := fun q => ha m hm (by rw [e, q])
    simp [eqV, ne]
end

/-! ### a goal's kind, asked ahead of its rules -/
section
variable {X : Cx} {L0 : Lg} {Γ : Sg} {O : Ow} {k : KD} {De : DE}
theorem gq_WE {e} (h : WE X e Γ O k) : WE X e Γ O k := h
theorem gq_WT {e k} (h : WT X e Γ O k) : WT X e Γ O k := h
theorem gq_WW {e k} (h : WW X e Γ O k) : WW X e Γ O k := h
theorem gq_WA {e k} (h : WA X e Γ O k) : WA X e Γ O k := h
theorem gq_WS {st} (h : WS X st Γ O De) : WS X st Γ O De := h
theorem gq_WSs {st} (h : WSs X st Γ O De) : WSs X st Γ O De := h
theorem gq_WO {f x y} (h : WO X f x y O k) : WO X f x y O k := h
theorem gq_WU {f x} (h : WU X f x O k) : WU X f x O k := h
theorem gq_WC {f ds} (h : WC X f ds O k) : WC X f ds O k := h
theorem gq_WI {x y} (h : WI X x y O k) : WI X x y O k := h
theorem gq_WM {i x ds} (h : WM X i x ds O k) : WM X i x ds O k := h
theorem gq_WG {tg d k} (h : WG X tg d Γ O k) : WG X tg d Γ O k := h
theorem gq_WGs {tg d k} (h : WGs X tg d Γ O k) : WGs X tg d Γ O k := h
theorem gq_WP {p k} (h : WP X p Γ O k) : WP X p Γ O k := h
theorem gq_WSl {x lo hi} (h : WSl X x lo hi O k) : WSl X x lo hi O k := h
theorem gq_WSet {x y d k} (h : WSet X x y d O k) : WSet X x y d O k := h
theorem gq_WPs {ks vs k} (h : WPs X ks vs Γ O k) : WPs X ks vs Γ O k := h
theorem gq_ItD {x y κ} (h : ItD X x y Γ O κ) : ItD X x y Γ O κ := h
theorem gq_LoopD {tg b ds} (h : LoopD X tg b De ds Γ O) : LoopD X tg b De ds Γ O := h
theorem gq_WEx {e} (h : WEx X L0 e Γ O k) : WEx X L0 e Γ O k := h
theorem gq_WSx {e} (h : WSx X L0 e Γ O De) : WSx X L0 e Γ O De := h
theorem gq_WSsx {e} (h : WSsx X L0 e Γ O De) : WSsx X L0 e Γ O De := h
theorem gq_ite {c : Prop} [Decidable c] {a b : Prop} (h : if c then a else b) : if c then a else b := h
theorem gq_ex {α : Sort _} {p : α → Prop} (h : ∃ x, p x) : ∃ x, p x := h
theorem gq_and {a b : Prop} (h : a ∧ b) : a ∧ b := h
end
end DL
/-! DL, part Y: a set of texts -/
namespace DL
open L2 PySem
open PySem.Spec PyProof.Rows
open SS (strs_at)

/-! ### how many texts are unlike -/
/-- of a list told from its end -/
def unl : List Str → Nat
  | [] => 0
  | x :: r => if x ∈ r then unl r else unl r + 1
theorem unl_le : ∀ l : List Str, unl l ≤ l.length
  | [] => Nat.le_refl _
  | x :: r => by
    have := unl_le r
    unfold unl
    split
    · exact Nat.le_succ_of_le this
    · exact Nat.succ_le_succ this
theorem unl_all : ∀ l : List Str, unl l = l.length ↔ l.Nodup
  | [] => ⟨fun _ => List.nodup_nil, fun _ => rfl⟩
  | x :: r => by
    have ih := unl_all r
    have le := unl_le r
    unfold unl
    rw [List.nodup_cons, List.length_cons]
    split
    · rename_i h
      exact ⟨fun e => by omega, fun e => absurd h e.1⟩
    · rename_i h
      exact ⟨fun e => ⟨h, ih.mp (by omega)⟩, fun e => by rw [ih.mpr e.2]⟩
theorem nodup_rev {l : List Str} : l.reverse.Nodup ↔ l.Nodup := (List.reverse_perm l).nodup_iff
theorem unl_cons (x : Str) (r : List Str) : unl (x :: r) = if x ∈ r then unl r else unl r + 1 := rfl

section
variable {prog : Program} {w : World} {A : Around} {R : Result → Shared → Prop} {I S : Addr} {fp wr : List Addr} {G : Array GenState → Array GenState → Prop} {P : Nat → Value → Prop} {St : Nat → Shared → Prop}
theorem setOf_same {h h' : Heap} {m : Str → Bool} {n : Nat} (a : h.SetOf (PySem.strKind prog w) S m n) (k : ∀ o, h.get? S = some o → h'.get? S = some o) : h'.SetOf (PySem.strKind prog w) S m n := by
  obtain ⟨o, es, ep, tb, ho, more⟩ := a
  exact ⟨o, es, ep, tb, k o ho, more⟩
/-- the texts that are left go into the set, one by one -/
theorem texts_into {xs : List Str} (W : WalksS prog w A.in1 I fp wr G xs.length P St) (far : S ∉ fp) (room : xs.length + 1 < scanBound) (val : ∀ i v, P i v → ∃ t, v = .str (xs.getD i Str.empty) t) :
    ∀ (todo done : List Str) (s : Shared), xs = done ++ todo → St done.length s → s.heap.SetOf (PySem.strKind prog w) S (fun y => decide (y ∈ done)) (unl done.reverse) →
      (∀ s2, Moved (S :: wr) G s s2 → s2.heap.SetOf (PySem.strKind prog w) S (fun y => decide (y ∈ xs)) (unl xs.reverse) → R (.ok (.ret .none)) s2) →
      codeAny (model prog w) A (.builtin "set.update.loop" ⟨[.ref S, .ref I], []⟩) R s
  | [], done, s, e, st, hS, k => by
    rw [List.append_nil] at e
    subst e
    have hw : S ∉ wr := fun z => far (W.sub _ z)
    refine codeAny_builtin
        PyProof.Rows.F.entry_set_update_loop ?_
    rw [Around.under_plainId
        PyProof.Rows.F.plain_set_update_loop _]
    refine wpAny_bind (W.done s _ _ st fun s2 mv => ?_)
    exact wpAny_pure (k s2 ⟨fun b o hb eb => mv.heap b o (fun z => hb (.tail _ z)) eb, mv.gens, mv.drawn, mv.os, mv.toks⟩ (setOf_same hS fun o eo => mv.heap S o hw eo))
  | x :: todo, done, s, e, st, hS, k => by
    have hw : S ∉ wr := fun z => far (W.sub _ z)
    have hlt : done.length < xs.length := by
      rw [e, List.length_append,
          List.length_cons]
      omega
    have hx : xs.getD done.length Str.empty = x := by
      rw [e, List.getD_eq_getElem?_getD, List.getElem?_append_right (Nat.le_refl _), Nat.sub_self]
      rfl
    refine codeAny_builtin
        PyProof.Rows.F.entry_set_update_loop ?_
    rw [Around.under_plainId
        PyProof.Rows.F.plain_set_update_loop _]
    refine wpAny_bind (W.item done.length s _ _ hlt st fun v s1 hv st1 mv => ?_)
    obtain ⟨tk, rfl⟩ := val _ _ hv
    rw [hx]
    have hS1 := setOf_same (h' := s1.heap) hS fun o eo => mv.heap S o hw eo
    show wpAny _ A.in1 (holding [Value.str x tk] (setAdd S (.str x tk)) >>= _) _ _ s1
    refine wpAny_bind (wpAny_holding
        ?_)
    unfold setAdd
    refine wpAny_holding (wpAny_bind ((PySem.strKind prog w).pyHash (k := x) (strKind_is _ _ _ _) ?_))
    have lim : unl done.reverse + 1 < scanBound := by
      have := unl_le done.reverse
      rw [List.length_reverse] at this
      omega
    refine wpAny_setAddHashed_of (knd := PySem.strKind prog w) (s := { s1 with toks := s1.toks + 1 }) (strKind_is _ _ _ _) rfl hS1 lim fun h2 sb hS2 => ?_
    have hS3 : h2.SetOf (PySem.strKind prog w) S (fun y => decide (y ∈ done ++ [x])) (unl (done ++ [x]).reverse) := by
      refine SetOf_congr hS2 (fun y => ?_) ?_
      · rw [Bool.eq_iff_iff]
        simp
      · rw [List.reverse_append]
        show (if decide (x ∈ done) = true then _ else _) = unl (x :: done.reverse)
        rw [unl_cons]
        by_cases q : x ∈ done
        · rw [if_pos (decide_eq_true q), if_pos (List.mem_reverse.mpr q)]
        · rw [if_neg (by simp [q]), if_neg (fun z => q (List.mem_reverse.mp z))]
    have out : ∀ b, b ≠ S → h2.get? b = s1.heap.get? b := fun b hb => sb.2 b hb
    have st2 : St (done ++ [x]).length { s1 with heap := h2, toks := s1.toks + 1 } := by
      rw [List.length_append]
      exact W.frame _ s1 _ _ st1 (Nat.le_succ _) fun b hb o eo => by
        rw [out b fun z => far (z ▸ hb)]
        exact eo
    refine wpAny_pure ⟨plainId_quiet PyProof.Rows.F.plain_set_update_loop _, texts_into W far room val todo (done ++ [x]) _ (by rw [e, List.append_assoc]; rfl) st2 hS3 fun s3 mv3 hS4 => ?_⟩
    refine k s3 ⟨fun b o hb eb => ?_, W.gtrans _ _ _ mv.gens mv3.gens, mv3.drawn.trans mv.drawn, mv3.os.trans mv.os, Nat.le_trans mv.toks (Nat.le_trans (Nat.le_succ _) mv3.toks)⟩ hS4
    refine mv3.heap b o hb ?_
    rw [show ({ s1 with heap := h2, toks := s1.toks + 1 } : Shared).heap = h2 from rfl, out b fun z => hb (z ▸ .head _)]
    exact mv.heap b o (fun z => hb (.tail _ z)) eb
end
section
variable {prog : Program}
    {w : World} {A : Around} {E : Value → Shared → Prop} {s : Shared}
def emptySet (led : Bool) : Obj := { cls := .type "set", dict := none, data := .set #[] 0 (.fresh 0 0 led) }
/-- set.__init__ of an empty set and a list of texts -/
theorem init_texts {l a : Addr} {items : Array Value} {xs : List Str} {led : Bool} {R : Value → Shared → Prop} (calm : A.handled = none) (hl : s.heap.IsList l items) (hi : StrsAre items.toList xs) (room : xs.length + 1 < scanBound)
    (ha : s.heap.get? a = some (emptySet led)) (hne : l ≠ a)
    (h : ∀ (h' : Heap) (tk : Nat), h'.SetOf (PySem.strKind prog w) a (fun y => decide (y ∈ xs)) (unl xs.reverse) → (∀ b o, b ≠ a → s.heap.get? b = some o → h'.get? b = some o) → R .none { s with heap := h', toks := tk }) :
    codeAny (model prog w) A (.builtin "set.__init__" ⟨[.ref a, .ref l], []⟩) (wants R E) s := by
  obtain ⟨hp, g,
      d, tk0, os⟩ := s
  have hsz : xs.length = items.size := by rw [← StrsAre.len_eq hi,
      Array.length_toList]
  refine codeAny_builtin PySem.F.entry_set_init ?_
  rw [Around.under_plainId PySem.F.called_set.init.plain _]
  obtain ⟨ol, hol, hcl, nl, hdl⟩ := hl
  obtain ⟨ocls, odict,
      odata, oslots⟩ := ol
  simp only at hcl hdl
  subst hcl
  subst hdl
  have s1 := PySem.F.sub_list_set
  have s2 := PySem.F.sub_list_frozenset
  have s3 : (Value.type "list" == Value.type "dict") = false := by decide
  have hL : hp.IsList l items := ⟨_, hol, rfl, nl, rfl⟩
  have hA : hp.get? a = some { cls := .type "set", dict := none, data := .set #[] 0 (.fresh 0 0 led) } := ha
  unfold Builtin.«set.__init__»
      noKeywords Builtin.Frozenset.updateFrom
  generalize hPI : pyIter = PI
  wp_walk
  subst hPI
  refine wpAny_pyIter_list hL (wpAny_bind (wpAny_runValue ?_))
  have lt : l < hp.objs.size := Heap.lt_size hol
  have lta : a < hp.objs.size := Heap.lt_size ha
  have hneI : l ≠ hp.objs.size := Nat.ne_of_lt lt
  have hneA : a ≠ hp.objs.size := Nat.ne_of_lt lta
  have W := (Walks.list (prog := prog) (w := w) (A := A.in1.in1) (by simp [calm]) hp.objs.size l hneI items).toS
  rw [← hsz] at W
  have start : (hp.push { cls := .type "list_iterator", data := .fields #[.ref l, .int 0 0] }).SetOf (PySem.strKind prog w) a (fun y => decide (y ∈ ([] : List Str))) (unl ([] : List Str).reverse) := by
    have e0 : (hp.push { cls := .type "list_iterator", data := .fields #[.ref l, .int 0 0] }).get? a = some { cls := .type "set", dict := none, data := .set #[] 0 (.fresh 0 0 led) } := Heap.get?_push_of_some _ hA
    exact SetOf_congr ((setObjOf_fresh (knd := PySem.strKind prog w) led).setOf e0 (by unfold scanBound; omega)) (fun y => by simp) rfl
  refine texts_into (S := a) W (fun z => ?_) room (fun i v hv => strs_at hi i v (by rw [Array.getElem?_toList]; exact hv)) xs [] ⟨hp.push { cls := .type "list_iterator", data := .fields #[.ref l, .int 0 0] }, g, d, tk0, os⟩ rfl ⟨⟨_, Heap.get?_push_size _ rfl, rfl, rfl⟩, hL.push _⟩ start fun s2 mv hS => ?_
  · rcases List.mem_cons.mp z with q | q
    · exact hneA q
    · exact hne (List.mem_singleton.mp q).symm
  · have eq2 : s2 = ⟨s2.heap, g, d, s2.toks, os⟩ := by
      obtain ⟨h2, g2, d2, tk2, os2⟩ := s2
      have e1 : g2 = g := mv.gens
      have e2 : d2 = d := mv.drawn
      have e3 : os2 = os := mv.os
      rw [e1, e2, e3]
    rw [eq2]
    refine wpAny_pure (wpAny_pure
        ?_)
    refine h s2.heap s2.toks hS fun b o hb eb => mv.heap b o (fun z => ?_) (Heap.get?_push_of_some _ eb)
    rcases List.mem_cons.mp z with q | q
    · exact hb q
    · exact Nat.ne_of_lt (Heap.lt_size eb) (List.mem_singleton.mp q)
/-- set(list of texts) -/
theorem set_texts {l : Addr} {items : Array Value} {xs : List Str} {Q : Value → Shared → Prop} (calm : A.handled = none) (hl : s.heap.IsList l items) (hi : StrsAre items.toList xs) (room : xs.length + 1 < scanBound)
    (h : ∀ (h' : Heap) (tk : Nat), h'.SetOf (PySem.strKind prog w) s.heap.objs.size (fun y => decide (y ∈ xs)) (unl xs.reverse) → (∀ b o, s.heap.get? b = some o → h'.get? b = some o) → Q (.ref s.heap.objs.size) { s with heap := h', toks := tk }) :
    wpAny (model prog w) A (call (.type
        "set") [.ref l]) Q E s := by
  have ft := PySem.F.called_set
  have a1 := ft.made
  have a2 := ft.sub
  have a3 := ft.notType
  have a4 := ft.canCreate
  have a5 := PySem.F.typeCall_set_1 (.ref l)
  have a6 := ft.init.lookup
  obtain ⟨c, tl, a7⟩ := ft.mro
  have lt : l < s.heap.objs.size := by
    obtain ⟨o, ho, _⟩ := id hl
    exact Heap.lt_size ho
  refine wpAny_call (codeAny_of_tree (wpAny_pure ⟨Code.quiet_builtin _ (by decide +kernel), codeAny_builtin PySem.F.entry_type_call ?_⟩))
  rw [Around.under_plain (weight_type_call_type
      "set" [.ref l] []) rfl]
  repeat (any_goals (first
      | assumption | wp_step))
  refine codeAny_mono (code_set_new_1 (.ref l) (E := E) (Q₁ := fun v t => ∃ led : Bool, v = .ref s.heap.objs.size ∧ t = { s with heap := s.heap.push (emptySet led) }) fun led => ⟨led, rfl, rfl⟩) fun r t hr => ?_
  cases r with
  | error e => exact hr
  | ok fl =>
    cases fl with
    | ret v =>
      obtain ⟨led, rfl, rfl⟩ := hr
      have got : (s.heap.push (emptySet led)).get? s.heap.objs.size = some (emptySet led) := Heap.get?_push_size _ rfl
      have isS : Shared.TypeIs { s with heap := s.heap.push (emptySet led) } (.ref s.heap.objs.size) "set" := ⟨_, got, rfl⟩
      have a8 := ft.init.bind (.ref s.heap.objs.size)
      repeat (any_goals (first
          | assumption | wp_step))
      refine codeAny_mono (codeAny_call_builtin_code (R := wants (fun r t => r = .none ∧ Q (.ref s.heap.objs.size) t) E) (plainId_quiet ft.init.plain _) (check_set_init_1 isS (init_texts (R := fun r t => r = .none ∧ Q (.ref s.heap.objs.size) t) (by simp [calm]) (hl.push _) hi room got (Nat.ne_of_lt lt) fun h' tk hS hk => ⟨rfl, h h' tk hS fun b o eb => hk b o (Nat.ne_of_lt (Heap.lt_size eb)) (Heap.get?_push_of_some _ eb)⟩))) fun r t hr => ?_
      cases r with
      | error e => exact hr
      | ok fl =>
        cases fl with
        | ret r =>
          obtain ⟨rfl, hq⟩ := hr
          repeat (any_goals (first
              | assumption | wp_step))
        | _ => exact hr.elim
    | _ => exact hr.elim
end
end DL
/-! DL, part Z: len(set(texts)), stars in displays, f-texts, comprehensions one by one -/
namespace DL
open PySem PySem.Spec PyProof.Rows L2 StX

section
variable {X : Cx} {Γ : Sg} {O : Ow} {k : KD}
theorem strs_vals : ∀ {xs : List Str} {us : List Value}, Vals (xs.map V.str) us → StrsAre us xs
  | [], _, .nil => .nil
  | x :: xs, _, .cons r t => by
    obtain ⟨u, rfl⟩ := r
    exact .cons x u (strs_vals t)
/-- len(set(e)), e a list of texts -/
theorem we_lenSet {a : Expr} {p p2 q pos : Pos} (b1 : Bn X "len" "len") (b2 : Bt X "set" "set") (hc : X.calm = true) (na : starEach [a] X.env = (false, eval a X.env) :: starEach [] X.env)
    (h : WE X a Γ O fun d O1 => ∃ xs : List Str, SqD O1 d (xs.map .str) ∧ xs.length ≤ 1000 ∧ k (.int (unl xs.reverse : Nat)) O1) : WE X (.Call (.Name "len" p) [.Call (.Name "set" p2) [a] [] q] [] pos) Γ O k := fun σ L H hs hr Q hq => by
  intro pins s I
  refine Call_ (ld_blt I b1.hg b1.hm b1.hv (PyProof.Rows.callWith_builtin1 (PyProof.Rows.args_cons ?_ rfl) rfl rfl))
  refine Call_ (ld_blt I b2.hg b2.hm b2.hv (PyProof.Rows.callWith_type1 (PyProof.Rows.args_cons ?_ na) na rfl))
  refine thn (h σ L H hs hr (fun v H1 => ∃ (l : Addr) (xs : List Str), v = .ref l ∧ SqL X.K H1 l (xs.map V.str) ∧ xs.length ≤ 1000 ∧ Q (.int (unl xs.reverse : Nat)) H1) (fun v d O1 L1 H1 h1 e1 i1 r1 => ?_) pins s I) fun v s1 hv => PyProof.Rows.args_nil ?_
  · obtain ⟨xs, hd, hz, h1⟩ := h1
    obtain ⟨l, vs, rfl, hq2, i2⟩ := sqD_of r1 hd i1
    rw [isL_str i2] at hq2
    exact ⟨l, xs, rfl, hq2, hz, hq _ _ _ _ _ h1 e1 (.int _) r1⟩
  · obtain ⟨_, H1, I1, r1, l, xs, rfl, hq2, hz, q1⟩ := hv
    obtain rfl := r1
    obtain ⟨its, r, pl, _⟩ := I1.list hq2
    have hi : StrsAre its.toArray.toList xs := by simpa using strs_vals r
    refine set_texts (I1.ok.hd hc) pl.isList hi (by unfold scanBound; omega) fun hp2 tk2 hS hk => PyProof.Rows.args_nil ?_
    obtain ⟨o, es, ep, t, ho, hex,
        hd, _, _, _, hf, hn⟩ := hS
    have I2 : Inv X pins σ H1 { s1 with heap := hp2, toks := tk2 } := I1.kept hk
    have le := unl_le xs.reverse
    rw [List.length_reverse] at le
    exact call_len_set ho hex hd hf (by rw [hn]; omega) ⟨.int (unl xs.reverse : Nat), H1, I2.tok _, ⟨_, by rw [hn]⟩, q1⟩

/-! ### e, *e -/
variable {ka : List D → Ow → Prop}
theorem wa_star {e : Expr} {es : List Expr} {p : Pos} (hst : starEach (.Starred e p :: es) X.env = (true, eval e X.env) :: starEach es X.env) (h : WE X e Γ O fun x O1 => ∃ ds, (SqD O1 x ds ∨ x = .tup ds) ∧ WA X es Γ O1 fun gs O2 => ka (ds ++ gs) O2) : WA X (.Starred e p :: es) Γ O ka := fun σ L H hs hr Q q => by
  refine toA (pa_star (pu e) (pau es) hst) ?_
  refine h σ L H hs hr _ fun x dx O1 L1 H1 h1 e1 i1 r1 => ?_
  obtain ⟨ds, hd, h1⟩ := h1
  rcases hd with hd | rfl
  · obtain ⟨a, vs, rfl, hv, i2⟩ := sqD_of r1 hd i1
    refine ⟨a, vs, rfl, .inr hv, ?_⟩
    exact h1 σ L1 H1 (hs.mono e1) r1 _ fun us gs O2 L2 H2 h2 e2 i3 r2 => q _ _ _ _ _ h2 (e1.trans e2) ((i2.mono e2).append i3) r2
  · obtain ⟨a, vs, rfl, hv, i2⟩ := i1.tup'
    refine ⟨a, vs, rfl, .inl (r1.st hv), ?_⟩
    exact h1 σ L1 H1 (hs.mono e1) r1 _ fun us gs O2 L2 H2 h2 e2 i3 r2 => q _ _ _ _ _ h2 (e1.trans e2) ((i2.mono e2).append i3) r2

/-! ### f'..' -/
def WJ (X : Cx) : List Expr → Str → Sg → Ow → (Str → Ow → Prop) → Prop
  | [], acc, _, O, k => k acc O
  | e :: es, acc, Γ, O, k => WE X e Γ O fun d O1 => ∃ y : Str, d = .str y ∧ (acc ++ y).length ≤ sizeLine ∧ WJ X es (acc ++ y) Γ O1 k
theorem pj_univ : ∀ es : List Expr, ∃ ts, PJ X es ts ∧ ∀ (acc : Str) Γ O k, WJ X es acc Γ O k → ∀ σ L H, Sl X.K L σ Γ → R X.K L O H → ∀ Q : Str → Hp → Prop, (∀ z O' L' H', k z O' → L.le L' → R X.K L' O' H' → Q z H') → tJs ts acc σ H Q
  | [] => ⟨[], .nil, fun acc Γ O k h σ L H hs hr Q q => q _ _ _ _ h (.refl L) hr⟩
  | e :: es => by
    obtain ⟨ts, h1, h2⟩ := pj_univ es
    refine ⟨_, .cons (pu e) h1, fun acc Γ O k h σ L H hs hr Q q => ?_⟩
    refine h σ L H hs hr _ fun x dx O1 L1 H1 g e1 i1 r1 => ?_
    obtain ⟨y, rfl, hz, g⟩ := g
    exact ⟨y, i1.str', hz, h2 _ _ _ _ g σ L1 H1 (hs.mono e1) r1 Q fun z O' L' H' hk le r => q _ _ _ _ hk (e1.trans le) r⟩
theorem we_joined {v1 v2 : Expr} {rest : List Expr} {pos : Pos} (h : WJ X (v1 :: v2 :: rest) Str.empty Γ O fun z O1 => k (.str z) O1) : WE X (.JoinedStr (v1 :: v2 :: rest) pos) Γ O k := fun σ L H hs hr Q q => by
  obtain ⟨ts, h1, h2⟩ := pj_univ (X := X) (v1 :: v2 :: rest)
  refine toE (pe_joined h1) ?_
  exact h2 _ _ _ _ h σ L H hs hr _ fun z O' L' H' hk le r => q _ _ _ _ _ hk le (.str z) r
theorem we_fmt {e : Expr} {pos : Pos} (h : WE X e Γ O fun d O1 => (∃ y : Str, d = .str y ∧ y.length ≤ sizeLine ∧ k (.str y) O1) ∨ ∃ i : Int, d = .int i ∧ i.natAbs.log2 < 1920 ∧ k (.str (toString i)) O1) : WE X (.FormattedValue e (-1) none pos) Γ O k := fun σ L H hs hr Q q => by
  refine toE (pe_fmt (pu e)) ?_
  refine h σ L H hs hr _ fun x dx O1 L1 H1 h1 e1 i1 r1 => ?_
  rcases h1 with ⟨y, rfl, hz, h1⟩ | ⟨i, rfl, hz, h1⟩
  · exact .inl ⟨y, i1.str', hz, q _ _ _ _ _ h1 e1 (.str y) r1⟩
  · exact .inr ⟨i, i1.int', hz, q _ _ _ _ _ h1 e1 (.str _) r1⟩
theorem wj_nil {acc : Str} {kj : Str → Ow → Prop} (h : kj acc O) : WJ X [] acc Γ O kj := h
theorem wj_cons {e : Expr} {es : List Expr} {acc : Str} {kj : Str → Ow → Prop} (h : WE X e Γ O fun d O1 => ∃ y : Str, d = .str y ∧ (acc ++ y).length ≤ sizeLine ∧ WJ X es (acc ++ y) Γ O1 kj) : WJ X (e :: es) acc Γ O kj := h

/-! ### comprehensions, item by item -/
section
variable {elt : Expr} {scope : Scope} {vs : List Nat} {t : Tg} {ds : List D} {fin : List D → Prop}
/-- each item gives what p says of it -/
theorem lc_any (p : Nat → D → Prop) (hz : ds.length ≤ 1000) (h : ∀ i d, ds[i]? = some d → ∀ O2, Agr O O2 → ∃ Γ2, tgD t d (wipeD Γ vs) = some Γ2 ∧ BE X scope elt Γ2 O2 fun y O4 => O4 = O2 ∧ p i y)
    (hf : ∀ acc : List D, acc.length = ds.length → (∀ (i : Nat) y, acc[i]? = some y → p i y) → fin acc) : LcD X elt [] scope vs t Γ ds O fin := by
  refine ⟨fun i acc => acc.length = i ∧ ∀ (j : Nat) y, acc[j]? = some y → p j y, ⟨rfl, fun j y e => by simp at e⟩, fun i d acc hd ha O2 ag => ?_, fun acc ha => hf acc ha.1 ha.2⟩
  obtain ⟨hl, hp⟩ := ha
  obtain ⟨Γ2, h1, h2⟩ := h i d hd O2 ag
  refine ⟨Γ2, h1, rfl, iteT fun s H C cl fp => ?_⟩
  refine (h2 s H C cl fp).imp fun y O4 ⟨e, hy⟩ => ⟨e, ?_, ?_, fun j z hj => ?_⟩
  · have := (List.getElem?_eq_some_iff.mp hd).1
    rw [sizeLine_eq]
    omega
  · rw [List.length_append, hl]
    rfl
  · by_cases c : j < acc.length
    · rw [List.getElem?_append_left c] at hj
      exact hp j z hj
    · rw [List.getElem?_append_right (Nat.le_of_not_lt c)] at hj
      have c2 : j - acc.length = 0 := by
        cases q : j - acc.length with
        | zero => rfl
        | succ n => rw [q] at hj; cases hj
      rw [c2] at hj
      obtain rfl : y = z := Option.some.inj hj
      have : j = i := by omega
      rw [this]
      exact hy
/-- each item gives f of its place -/
theorem lc_map (f : Nat → D) (hz : ds.length ≤ 1000) (h : ∀ i d, ds[i]? = some d → ∀ O2, Agr O O2 → ∃ Γ2, tgD t d (wipeD Γ vs) = some Γ2 ∧ BE X scope elt Γ2 O2 fun y O4 => O4 = O2 ∧ y = f i)
    (hf : fin ((List.range ds.length).map f)) : LcD X elt [] scope vs t Γ ds O fin := by
  refine lc_any (fun i y => y = f i) hz h fun acc hl hp => ?_
  have e : acc = (List.range ds.length).map f := by
    refine List.ext_getElem? fun i => ?_
    by_cases c : i < acc.length
    · rw [List.getElem?_eq_getElem c, hp i _ (List.getElem?_eq_getElem c), List.getElem?_map, List.getElem?_range (hl ▸ c)]
      rfl
    · rw [List.getElem?_eq_none (Nat.le_of_not_lt c), List.getElem?_eq_none (by rw [List.length_map, List.length_range]; omega)]
  rw [e]
  exact hf
end
end
end DL
/-! DL, part 1: zip of a tuple and a list, enumerate from a start -/
namespace DL
open L2 PySem
open PySem.Spec PyProof.Rows

/-! ### zip(tuple, list) -/
/-- what it goes over, as it stands at each turn -/
def ItzM (K : PySem.W.Frag) (a b : Addr) : It where
  go i H := ∃ (xs ys : List V) (x y : V), SqT K H a xs ∧ SqL K H b ys ∧ xs[i]? = some x ∧ ys[i]? = some y
  yld i H v H' := ∃ T x y, v = .ref T ∧ H T = none ∧ H' = upd H T (.tup [x, y]) ∧ (∀ xs, SqT K H a xs → xs[i]? = some x) ∧ ∀ ys, SqL K H b ys → ys[i]? = some y
  stop i H := ∃ xs ys : List V, SqT K H a xs ∧ SqL K H b ys ∧ i ≤ xs.length ∧ i ≤ ys.length ∧ (i = xs.length ∨ i = ys.length)
theorem in5 {α : Type} {c z p q r s : α} (h : c ∈ [z, p, q, r, s]) : c = z ∨ c = p ∨ c = q ∨ c = r ∨ c = s := by simpa using h
theorem turn_zipM {P : Program} {w : World} {K : PySem.W.Frag} {elts : List Expr} {kk : Nat} {tpos : Pos} {a b z TI TO i1 i2 : Addr} (D : ZipSep2 z TI TO i1 i2 [i1, a] [i2, b]) (ha : a ≠ i1) (hb : b ≠ i2) :
    Turn P w K (.Tuple elts kk tpos) (ItzM K a b) [z, TI, TO, i1, i2] z (fun i h => IsZip h z TI TO .none ∧ IsTupOf2 h TI (.ref i1) (.ref i2) ∧ (∃ x y, IsTupOf2 h TO x y) ∧ h.IsTupleIter i1 a i ∧ h.IsListIter i2 b i) where
  mem := .head _
  obj := fun i h ⟨q1, q2, ⟨x, y, q3⟩, ⟨o4, q4, _, d4⟩, ⟨o5, q5, _, d5⟩⟩ c hc => by
    rcases in5 hc with rfl | rfl | rfl | rfl | rfl
    · exact ⟨_, q1, fun v e => nomatch e⟩
    · exact ⟨_, q2, fun v e => nomatch e⟩
    · exact ⟨_, q3, fun v e => nomatch e⟩
    · exact ⟨o4, q4, fun v e => by rw [d4] at e; cases e⟩
    · exact ⟨o5, q5, fun v e => by rw [d5] at e; cases e⟩
  keep := fun i h h' ⟨q1, q2, ⟨x, y, q3⟩, q4, q5⟩ k => ⟨k _ (by simp) _ q1, k _ (by simp) _ q2, ⟨x, y, k _ (by simp) _ q3⟩, q4.at fun o e => k _ (by simp) o e, q5.at fun o e => k _ (by simp) o e⟩
  item := by
    intro X hP hw hK hc i pins s σ H E I hf ⟨q1, q2, ⟨x0, y0, q3⟩, q4, q5⟩ ⟨xs, ys, x, y, hx, hy, ex, ey⟩
    subst hP hw hK
    obtain ⟨us, rx, px, _⟩ := I.tuple hx
    obtain ⟨ws, ry, py, _⟩ := I.list hy
    obtain ⟨u, hu, ru⟩ := rx.get ex
    obtain ⟨v, hv, rv⟩ := ry.get ey
    have zl : z < s.heap.objs.size := Heap.lt_size q1
    have lu := (List.getElem?_eq_some_iff.mp hu).1
    have lv := (List.getElem?_eq_some_iff.mp hv).1
    have Du := Draws.tuple (prog := X.prog) (w := X.w) (A := X.A.in1) (I.ok.hd hc) i1 a ha us.toArray
    have Dv := Draws.list (prog := X.prog) (w := X.w) (A := X.A.in1) (I.ok.hd hc) i2 b hb ws.toArray
    refine wpAny_pyNext_zipD2_item D Du Dv q1 q2 q3 ⟨q4, px⟩ ⟨q5, py.isList⟩ (by simpa using lu) (by simpa using lv) fun x1 x2 h1 tk g1 g2 z1 t1 n1 n2 new1 _ k1 => ?_
    obtain rfl : u = x1 := Option.some.inj (hu.symm.trans (by simpa using g1))
    obtain rfl : v = x2 := Option.some.inj (hv.symm.trans (by simpa using g2))
    refine ⟨_, rfl, wpAny_letOwnedTupleGo_zip (s := { s with heap := h1, toks := tk }) z1 fun h2 z2 sb => ?_⟩
    have keep : ∀ c o, c ≠ z → c ≠ TI → c ≠ TO → c ≠ i1 → c ≠ i2 → s.heap.get? c = some o → h2.get? c = some o := fun c o c1 _ c3 c4 c5 e => (sb.2 c c1).trans (k1 c o c1 c3 c4 c5 e)
    have far : s.heap.objs.size ≠ z := Nat.ne_of_gt zl
    have made : h2.get? s.heap.objs.size = some { cls := .type "tuple", data := .seq #[u, v] } := (sb.2 _ far).trans new1
    have okT : ObjOk X.prog X.w (upd H s.heap.objs.size (.tup [x, y])) h2 s.heap.objs.size (.tup [x, y]) := ⟨by show 2 ≤ sizeLine; decide, [u, v], .cons ru (.cons rv .nil), ⟨_, made, rfl, _, rfl⟩⟩
    have I2 : Inv X pins σ (upd H s.heap.objs.size (.tup [x, y])) { s with heap := h2, toks := tk } :=
      I.turnedNew (ch := [z, TI, TO, i1, i2]) (fun c o hc e => keep c o (fun q => hc (by simp [q])) (fun q => hc (by simp [q])) (fun q => hc (by simp [q])) (fun q => hc (by simp [q])) (fun q => hc (by simp [q])) e) hf (Nat.le_refl _) okT
    refine ⟨.ref s.heap.objs.size, _, I2, rfl, ⟨_, x, y, rfl, I.hok.fresh (Nat.le_refl _), rfl, fun l hl => (by rw [I.tuple_inj hl hx]; exact ex), fun l hl => (by rw [I.list_inj hl hy]; exact ey)⟩, ⟨z2, ?_, ⟨u, v, ?_⟩, ?_, ?_⟩, fun c hcm => ?_⟩
    · exact (sb.2 _ D.TIz).trans (k1 _ _ D.TIz D.TITO D.TIi1 D.TIi2 q2)
    · exact (sb.2 _ D.TOz).trans t1
    · exact n1.1.at fun o e => (sb.2 _ (Ne.symm D.zi1)).trans e
    · exact n2.1.at fun o e => (sb.2 _ (Ne.symm D.zi2)).trans e
    · have old : c < s.heap.objs.size := by
        rcases in5 hcm with rfl | rfl | rfl | rfl | rfl
        · exact zl
        · exact Heap.lt_size q2
        · exact Heap.lt_size q3
        · obtain ⟨_, e, _⟩ := q4
          exact Heap.lt_size e
        · obtain ⟨_, e, _⟩ := q5
          exact Heap.lt_size e
      rw [upd_ne (Nat.ne_of_lt old)]
      exact (hf c hcm).1
  done := by
    intro X hP hw hK hc i pins s σ H E I hf ⟨q1, q2, ⟨x0, y0, q3⟩, q4, q5⟩ ⟨xs, ys, hx, hy, le1, le2, hend⟩
    subst hP hw hK
    obtain ⟨us, rx, px, _⟩ := I.tuple hx
    obtain ⟨ws, ry, py, _⟩ := I.list hy
    have l1 := rx.length
    have l2 := ry.length
    have Du := Draws.tuple (prog := X.prog) (w := X.w) (A := X.A.in1) (I.ok.hd hc) i1 a ha us.toArray
    have Dv := Draws.list (prog := X.prog) (w := X.w) (A := X.A.in1) (I.ok.hd hc) i2 b hb ws.toArray
    have n1 : i ≤ us.toArray.size := by rw [List.size_toArray]; omega
    have n2 : i ≤ ws.toArray.size := by rw [List.size_toArray]; omega
    have n3 : i = us.toArray.size ∨ i = ws.toArray.size := by rw [List.size_toArray, List.size_toArray]; omega
    exact wpAny_pyNext_zipD2_end D Du Dv q1 q2 q3 ⟨q4, px⟩ ⟨q5, py.isList⟩ n1 n2 n3 fun h1 tk k1 => ⟨rfl, I.turnedL (t' := tk) (ch := [z, TI, TO, i1, i2]) (fun c o hc e => k1 c o (fun q => hc (by simp [q])) (fun q => hc (by simp [q])) (fun q => hc (by simp [q])) (fun q => hc (by simp [q])) e) hf⟩
  self := fun A i s Q E st h
      => wpAny_pyIter_zip st.1 h
theorem pi_zipM {X : Cx} {e e2 : Expr} {ta : TA} {p pos tpos : Pos} {elts : List Expr} {kk : Nat} (hg : Gl X "zip") (hm : X.mg "zip" = none) (ha : PA X [e, e2] ta)
    (hs : starEach [e, e2] X.env = (false, eval e X.env) :: starEach [e2] X.env) (hpl : (backTo pos (starEach [e2] X.env)).any (·.1) = false) :
    PI X (.Tuple elts kk tpos) (.Call (.Name "zip" p) [e, e2] [] pos) (fun σ H R => ta σ H fun vs H1 => ∃ (a b : Addr) (xs ys : List V), vs = [.ref a, .ref b] ∧ SqT X.K H1 a xs ∧ SqL X.K H1 b ys ∧ R (ItzM X.K a b) H1) := by
  refine ⟨fun pins s
      σ H R I h => ?_⟩
  refine Call_ (ld_blt I hg hm PyProof.Rows.boot_zip (PyProof.Rows.callWith_type1 (thn (ha.run pos pins s σ H _ I h) fun us s1 hv => ?_) hs hpl))
  obtain ⟨vs, H1, I1, r1, a, b, xs, ys, rfl, hx, hy, q⟩ := hv
  cases r1 with
  | cons ra rest =>
    cases rest with
    | cons rb rest =>
      cases rest
      cases ra
      cases rb
      obtain ⟨us, rx, px, _⟩ := I1.tuple hx
      obtain ⟨ws, ry, py, _⟩ := I1.list hy
      obtain ⟨oa, ea, _⟩ := id px
      obtain ⟨ob, eb, _⟩ := id py.isList
      have la : @LT.lt Nat _ a s1.heap.objs.size := Heap.lt_size ea
      have lb : @LT.lt Nat _ b s1.heap.objs.size := Heap.lt_size eb
      have na : ∀ m : Nat, a ≠ s1.heap.objs.size + m := fun m => Nat.ne_of_lt (Nat.lt_of_lt_of_le la (Nat.le_add_right _ m))
      have nb : ∀ m : Nat, b ≠ s1.heap.objs.size + m := fun m => Nat.ne_of_lt (Nat.lt_of_lt_of_le lb (Nat.le_add_right _ m))
      refine zip_begins2 (begins_tuple a us.toArray) (begins_list b ws.toArray) px py.isList fun h' z1 z2 z3 z4 z5 zs hk => wpAny_pyIter_zip z1 ?_
      have I2 : Inv X pins σ H1 { s1 with heap := h' } := I1.kept (t'
          := s1.toks) hk
      have young : ∀ c ∈ [s1.heap.objs.size + 4, s1.heap.objs.size + 2, s1.heap.objs.size + 3, s1.heap.objs.size, s1.heap.objs.size + 1], FpOk X pins H1 c := fun c hc => by
        have le : s1.heap.objs.size ≤ c := by
          rcases in5 hc with rfl | rfl | rfl | rfl | rfl <;> omega
        exact I1.fpOk le (I1.hok.fresh le)
      have D : ZipSep2 (s1.heap.objs.size + 4) (s1.heap.objs.size + 2) (s1.heap.objs.size + 3) s1.heap.objs.size (s1.heap.objs.size + 1) [s1.heap.objs.size, a] [s1.heap.objs.size + 1, b] := by
        constructor <;> simp [Ne.symm (na 4), Ne.symm (na 3), Ne.symm (na 1), Ne.symm (nb 4), Ne.symm (nb 3), Ne.symm (nb 0)]
        all_goals first | exact Ne.symm (nb 0) | exact Ne.symm (na 1) | omega
      exact ⟨s1.heap.objs.size + 4, _, _, _, H1, rfl, I2, turn_zipM D (na 0) (nb 1), ⟨z1, z2, ⟨_, _, z3⟩, ⟨_, z4, rfl, rfl⟩, ⟨_, z5, rfl, rfl⟩⟩, young, q⟩
theorem walk_zipM {K : PySem.W.Frag} {a b : Addr} {xs ys : List V} {n : Nat} (hn : n = min xs.length ys.length) : Walk (ItzM K a b) n (fun H => SqT K H a xs ∧ SqL K H b ys) (YPair (fun i => xs[i]?) (fun i => ys[i]?)) := by
  subst hn
  refine ⟨fun i _ hi q => ?_, fun _ q => ⟨xs, ys, q.1, q.2, by omega, by omega, by omega⟩, fun i H v H' _ q ⟨T, x, z, g1, g2, g3, g4, g5⟩ => ⟨T, x, z, g1, g2, g3, g4 xs q.1, g5 ys q.2⟩⟩
  have c1 : i < xs.length := by omega
  have c2 : i < ys.length := by omega
  exact ⟨xs, ys, _, _, q.1, q.2, List.getElem?_eq_getElem c1, List.getElem?_eq_getElem c2⟩
section
variable {X : Cx} {Γ : Sg} {O : Ow} {tg : Expr} {κ : List D → Ow → Prop}
theorem isL_nth {K : PySem.W.Frag} {L L2 : Lg} {us : List V} {ds : List D} {i : Nat} (t : IsL K L us ds) (le : L.le L2) (h : i < ds.length) : ∀ v, us[i]? = some v → Is K L2 v ds[i] := fun v e => by
  obtain ⟨d', g1, g2⟩ := t.getV e
  rw [List.getElem?_eq_getElem h] at g1
  rw [Option.some.inj g1]
  exact g2.mono le
theorem it_zipM {e e2 : Expr} {p pos tpos : Pos} {elts : List Expr} {kk : Nat} (hg : Gl X "zip") (hm : X.mg "zip" = none) (hst : starEach [e, e2] X.env = (false, eval e X.env) :: starEach [e2] X.env) (hpl : (backTo pos (starEach [e2] X.env)).any (·.1) = false)
    (h : WA X [e, e2] Γ O fun xs O1 => ∃ ds es, xs = [.tup ds, .lst es] ∧ κ (zipD ds es) O1) : ItD X (.Tuple elts kk tpos) (.Call (.Name "zip" p) [e, e2] [] pos) Γ O κ := by
  refine ⟨_, pi_zipM hg hm (pau [e, e2]) hst hpl, fun σ L H hs hr RR q => ?_⟩
  refine h σ L H hs hr _ fun vs xs O1 L1 H1 h1 e1 i1 r1 => ?_
  obtain ⟨ds, es, rfl, h1⟩ := h1
  obtain ⟨v, u, rfl, i1, i2⟩ := i1.two'
  obtain ⟨a, us, rfl, s, t⟩ := i1.tup'
  obtain ⟨b, ws, rfl, s', t'⟩ := i2.lst'
  refine ⟨a, b, us, ws, rfl, r1.st s, .inl (.inl (r1.hp _ _ s')), ?_⟩
  refine q _ _ (fun H => SqT X.K H a us ∧ SqL X.K H b ws) _ O1 L1 H1 h1 e1 (walk_zipM (by rw [zipD_len, t.length, t'.length])) (fun L2 O2 H2 le r => ⟨r.st (le_st le s), .inl (.inl (r.hp _ _ (le.hp _ _ s')))⟩) (fun i x L2 O2 H2 H3 hi le r y => ?_) r1
  rw [zipD_len] at hi
  have h1 : i < ds.length := by omega
  have h2 : i < es.length := by omega
  obtain ⟨L3, le3, r3, is⟩ := pair_new (d := ds[i]) (e := es[i]) r y (isL_nth t le h1) (isL_nth t' le h2)
  exact ⟨L3, _, le3, r3, zipD_at (List.getElem?_eq_getElem h1) (List.getElem?_eq_getElem h2), is⟩
end
end DL
/-! DL, part 2: enumerate(list, start=n) -/
namespace DL
open L2 PySem
open PySem.Spec PyProof.Rows

def ItnS (K : PySem.W.Frag) (a : Addr) (n : Int) : It where
  go i H := ∃ (xs : List V) (x : V), SqL K H a xs ∧ xs[i]? = some x
  yld i H v H' := ∃ T x, v = .ref T ∧ H T = none ∧ H' = upd H T (.tup [.int (n + (i : Nat)), x]) ∧ ∀ xs, SqL K H a xs → xs[i]? = some x
  stop i H := ∃ xs : List V, SqL K H a xs ∧ xs.length = i
theorem turn_from {P : Program} {w : World} {K : PySem.W.Frag} {elts : List Expr} {kk : Nat} {tpos : Pos} {n : Int} {a e it : Addr} (h1 : e ≠ it) (h2 : a ≠ it) (h3 : e ≠ a) :
    Turn P w K (.Tuple elts kk tpos) (ItnS K a n) [e, it] e (fun i h => (∃ old, IsEnum h e it (n + (i : Nat)) old) ∧ h.IsListIter it a i) where
  mem := .head _
  obj := fun i h ⟨⟨old, q1⟩, ⟨o, q2, _, d2⟩⟩ c hc => by
    rcases List.mem_cons.mp
        hc with rfl | hc
    · exact ⟨_, q1, fun v e => nomatch e⟩
    · rw [List.mem_singleton.mp hc]
      exact ⟨o, q2, fun v e => by rw [d2] at e; cases e⟩
  keep := fun i h h' ⟨⟨old, q1⟩, q2⟩ k => ⟨⟨old, k _ (by simp) _ q1⟩, q2.at fun o x => k _ (by simp) o x⟩
  item := by
    intro X hP hw hK hc i pins s σ H E I hf ⟨⟨old, q1⟩, q2⟩ ⟨xs, x, hx, ex⟩
    subst hP hw hK
    obtain ⟨us, rx, px, _⟩ := I.list hx
    obtain ⟨u, hu, ru⟩ := rx.get ex
    have lu := (List.getElem?_eq_some_iff.mp hu).1
    have el : e < s.heap.objs.size := Heap.lt_size q1
    have il : it < s.heap.objs.size := by obtain ⟨_, q, _⟩ := id q2; exact Heap.lt_size q
    have Du := Draws.list (prog := X.prog) (w := X.w) (A := X.A.in1) (I.ok.hd hc) it a h2 us.toArray
    refine wpAny_pyNext_enum_itemC Du q1 ⟨q2, px.isList⟩ (by simpa using lu) h1 (by simp [h1, h3]) fun x1 g tk g1 out st new1 _ k1 => ?_
    obtain rfl : u = x1 := Option.some.inj (hu.symm.trans (by simpa using g1))
    refine ⟨_, rfl, wpAny_letOwnedTupleGo_enum (s := { s with heap := g, toks := tk + 1 }) out fun g2 en sb => ?_⟩
    have far : s.heap.objs.size ≠ e := Nat.ne_of_gt el
    have keep : ∀ c o, c ≠ e → c ≠ it → s.heap.get? c = some o → g2.get? c = some o := fun c o c1 c2 q => (sb.2 c c1).trans (k1 c o c1 c2 q)
    have made : g2.get? s.heap.objs.size = some { cls := .type "tuple", data := .seq #[.int (n + (i : Nat)) tk, u] } := (sb.2 _ far).trans new1
    have okT : ObjOk X.prog X.w (upd H s.heap.objs.size (.tup [.int (n + (i : Nat)), x])) g2 s.heap.objs.size (.tup [.int (n + (i : Nat)), x]) := ⟨by show 2 ≤ sizeLine; decide, [.int (n + (i : Nat)) tk, u], .cons ⟨_, rfl⟩ (.cons ru .nil), ⟨_, made, rfl, _, rfl⟩⟩
    have I2 : Inv X pins σ (upd H s.heap.objs.size (.tup [.int (n + (i : Nat)), x])) { s with heap := g2, toks := tk + 1 } :=
      I.turnedNew (ch := [e, it]) (fun c o hc q => keep c o (fun z => hc (by simp [z])) (fun z => hc (by simp [z])) q) hf (Nat.le_refl _) okT
    refine ⟨.ref s.heap.objs.size, _, I2, rfl, ⟨_, x, rfl, I.hok.fresh (Nat.le_refl _), rfl, fun l hl => (by rw [I.list_inj hl hx]; exact ex)⟩, ⟨⟨u, ?_⟩, st.1.at fun o q => (sb.2 it (Ne.symm h1)).trans q⟩, fun c hcm => ?_⟩
    · have e1 : n + ((i + 1 : Nat) : Int) = n + (i : Int) + 1 := by omega
      rw [e1]
      exact en
    · have old : c < s.heap.objs.size := by
        rcases List.mem_cons.mp hcm with rfl | hcm
        · exact el
        · rw [List.mem_singleton.mp hcm]; exact il
      rw [upd_ne (Nat.ne_of_lt old)]
      exact (hf c hcm).1
  done := by
    intro X hP hw hK hc i pins s σ H E I hf ⟨⟨old, q1⟩, q2⟩ ⟨xs, hx, le⟩
    subst hP hw hK
    obtain ⟨us, rx, px, _⟩ := I.list hx
    have lu := rx.length
    have Du := Draws.list (prog := X.prog) (w := X.w) (A := X.A.in1) (I.ok.hd hc) it a h2 us.toArray
    obtain ⟨f0, f1, f2, f3,
        f4, f5⟩ := hf it (by simp)
    have ei : us.toArray.size = i := by rw [List.size_toArray]; omega
    refine wpAny_pyNext_enum_endD Du q1 ⟨by rw [ei]; exact q2, px.isList⟩ fun h' eb => ⟨rfl, I.turned (t' := s.toks) (fun b o hb q => eb b o hb q) f0 f1 f3 f4 f5⟩
  self := fun A i s Q E st h => let ⟨⟨_,
      he⟩, _⟩ := st; wpAny_pyIter_enum he h
section
variable {M : Model}
    {A : Around} {E : Value → Shared → Prop} {s : Shared} {env : Env}
/-- T(a, .., k=v): the call of a built-in class -/
theorem type_kw {pos : Pos} {T : String} {e : Expr} {rest : List Expr} {kws : List Keyword} {Q : Value → Shared → Prop} (he : backTo pos (starEach (e :: rest) env) = (false, eval e env) :: backTo pos (starEach rest env))
    (hp : (backTo pos (starEach (e :: rest) env)).any (·.1) = false) (ha : (backToKw pos (keywordEach kws env)).all (·.1.isSome) = true) (hn : (backToKw pos (keywordEach kws env)).any (·.1.isNone) = false)
    (h : wpAny M A (spliced (backTo pos (starEach (e :: rest) env))) (fun vs t => wpAny M A (evalAll ((backToKw pos (keywordEach kws env)).map (·.2))) (fun us t => wpAny M A (call (.type T) vs (((backToKw pos (keywordEach kws env)).filterMap (·.1)).zip us)) Q E t) E t) E s) :
    wpAny M A (callWith pos (.type T) [] (backTo pos (starEach (e :: rest) env)) (backToKw pos (keywordEach kws env))) Q E s := by
  unfold callWith
  have h2 : wpAny M A (evalArgs (.type T) true (backTo pos (starEach (e :: rest) env)) (backToKw pos (keywordEach kws env))) (fun a t => wpAny M A (call (.type T) a.pos a.kw) Q E t) E s := by
    rw [he] at h ⊢
    exact evalArgs_kwB ha h
  refine wpAny_bind (wpAny_holding (wpAny_mono h2 (fun a t ht => wpAny_bind (wpAny_standAt ?_)) fun _ _ x => x))
  simp only [hp, hn, Bool.or_false]
  refine wpAny_bind (wpAny_pure (wpAny_bind (wpAny_mono ht (fun r t hr => ?_) fun _ _ x => x)))
  exact wpAny_bind (wpAny_holding (wpAny_point (wpAny_pure hr)))
end
theorem pi_from {X : Cx} {e c : Expr} {ta : TA} {tk : TA} {p pos tpos kpos : Pos} {elts : List Expr} {kk : Nat} (hg : Gl X "enumerate") (hm : X.mg "enumerate" = none) (ha : PA X [e] ta) (hk : PK X [⟨some "start", c, kpos⟩] tk)
    (h1 : backTo pos (starEach [e] X.env) = (false, eval e X.env) :: backTo pos (starEach [] X.env)) (h2 : (backTo pos (starEach [e] X.env)).any (·.1) = false) (h3 : (backToKw pos (keywordEach [⟨some "start", c, kpos⟩] X.env)).all (·.1.isSome) = true)
    (h4 : (backToKw pos (keywordEach [⟨some "start", c, kpos⟩] X.env)).any (·.1.isNone) = false) (h5 : (backToKw pos (keywordEach [⟨some "start", c, kpos⟩] X.env)).filterMap (·.1) = [Str.ofString "start"]) :
    PI X (.Tuple elts kk tpos) (.Call (.Name "enumerate" p) [e] [⟨some "start", c, kpos⟩] pos) (fun σ H R => ta σ H fun vs H1 => tk σ H1 fun ks H2 => ∃ (a : Addr) (xs : List V) (n : Int), vs = [.ref a] ∧ ks = [.int n] ∧ -(2 ^ 63) ≤ n ∧ n < 2 ^ 63 ∧ SqL X.K H2 a xs ∧ R (ItnS X.K a n) H2) := by
  refine ⟨fun pins s
      σ H R I h => ?_⟩
  refine wpAny_Call_Name_kw (ld_blt I hg hm boot_enumerate (type_kw h1 h2 h3 h4 ?_))
  refine thn (ha.run pos pins s σ H _ I h) fun us s1 hv => ?_
  obtain ⟨vs, H1, I1, r1, q1⟩ := hv
  refine thn (hk.run pos pins s1 σ H1 _ I1 q1) fun us2 s2 hv => ?_
  obtain ⟨ks, H2, I2, r2, a, xs, n, rfl, rfl, n1, n2, hx, q⟩ := hv
  cases r1 with
  | cons ra rest =>
    cases rest
    cases ra
    cases r2 with
    | cons rb rest =>
      cases rest
      obtain ⟨tn, rfl⟩ := rb
      rw [h5]
      obtain ⟨us, rx, px, _⟩ := I2.list hx
      obtain ⟨oa, ea, _⟩ := id px.isList
      have la : @LT.lt Nat _ a s2.heap.objs.size := Heap.lt_size ea
      refine enum_begins_start (begins_list a us.toArray) px.isList n1 n2 fun h' z1 z2 zs hk => wpAny_pyIter_enum z1 ?_
      have I3 : Inv X pins σ H2 { s2 with heap := h' } := I2.kept (t' := s2.toks) hk
      have young : ∀ c ∈ [s2.heap.objs.size + 1, s2.heap.objs.size], FpOk X pins H2 c := fun c hc => by
        have le : s2.heap.objs.size ≤ c := by
          rcases List.mem_cons.mp
              hc with rfl | hc
          · exact Nat.le_succ _
          · rw [List.mem_singleton.mp hc]; exact Nat.le_refl _
        exact I2.fpOk le (I2.hok.fresh le)
      refine ⟨s2.heap.objs.size + 1, [s2.heap.objs.size + 1, s2.heap.objs.size], _, _, H2, rfl, I3, turn_from (a := a) (it := s2.heap.objs.size) (n := n) (Nat.succ_ne_self _) (Nat.ne_of_lt la) (Nat.ne_of_gt (Nat.lt_succ_of_lt la)), ⟨⟨.none, ?_⟩, ⟨_, z2, rfl, rfl⟩⟩, young, q⟩
      show IsEnum h' _ _ (n + ((0 : Nat) : Int)) _
      rw [show n + ((0 : Nat) : Int) = n from Int.add_zero n]
      exact z1
theorem walk_from {K : PySem.W.Frag} {a : Addr} {xs : List V} {n : Int} : Walk (ItnS K a n) xs.length (fun H => SqL K H a xs) (YPair (fun i => some (.int (n + (i : Nat)))) (fun i => xs[i]?)) := by
  refine ⟨fun i _ hi q => ⟨xs, _, q, List.getElem?_eq_getElem hi⟩, fun _ q => ⟨xs, q, rfl⟩, fun i H v H' _ q ⟨T, x, g1, g2, g3, g4⟩ => ⟨T, _, x, g1, g2, g3, rfl, g4 xs q⟩⟩
def enumF (n : Int) (ds : List D) : List D := ds.zipIdx.map fun p => .tup [.int (n + (p.2 : Nat)), p.1]
theorem enumF_len (n : Int) (ds : List D) : (enumF n ds).length = ds.length := by simp [enumF]
theorem enumF_at {n : Int} {ds : List D} {i : Nat} {d : D} (h : ds[i]? = some d) : (enumF n ds)[i]? = some (.tup [.int (n + (i : Nat)), d]) := by
  simp [enumF, h]
section
variable {X : Cx} {Γ : Sg} {O : Ow} {κ : List D → Ow → Prop}
theorem it_from {e c : Expr} {p pos tpos kpos : Pos} {elts : List Expr} {kk : Nat} (hg : Gl X "enumerate") (hm : X.mg "enumerate" = none)
    (h1 : backTo pos (starEach [e] X.env) = (false, eval e X.env) :: backTo pos (starEach [] X.env)) (h2 : (backTo pos (starEach [e] X.env)).any (·.1) = false) (h3 : (backToKw pos (keywordEach [⟨some "start", c, kpos⟩] X.env)).all (·.1.isSome) = true)
    (h4 : (backToKw pos (keywordEach [⟨some "start", c, kpos⟩] X.env)).any (·.1.isNone) = false) (h5 : (backToKw pos (keywordEach [⟨some "start", c, kpos⟩] X.env)).filterMap (·.1) = [Str.ofString "start"])
    (h : WA X [e] Γ O fun xs O1 => WK X [⟨some "start", c, kpos⟩] Γ O1 fun ks O2 => ∃ ds n, xs = [.lst ds] ∧ ks = [.int n] ∧ -(2 ^ 63) ≤ n ∧ n < 2 ^ 63 ∧ κ (enumF n ds) O2) :
    ItD X (.Tuple elts kk tpos) (.Call (.Name "enumerate" p) [e] [⟨some "start", c, kpos⟩] pos) Γ O κ := by
  refine ⟨_, pi_from hg hm (pau [e]) (pku _) h1 h2 h3 h4 h5, fun σ L H hs hr RR q => ?_⟩
  refine h σ L H hs hr _ fun vs xs O1 L1 H1 g1 e1 i1 r1 => ?_
  refine g1 σ L1 H1 (hs.mono e1) r1 _ fun us ks O2 L2 H2 g2 e2 i2 r2 => ?_
  obtain ⟨ds, n, rfl, rfl, n1, n2, g2⟩ := g2
  obtain ⟨v, rfl, j1⟩ := i1.one'
  obtain ⟨u, rfl, j2⟩ := i2.one'
  obtain ⟨a, ws, rfl, s, t⟩ := j1.lst'
  rw [j2.int']
  have s2 := e2.hp _ _ s
  refine ⟨a, ws, n, rfl, rfl, n1, n2, .inl (.inl (r2.hp _ _ s2)), ?_⟩
  refine q _ _ (fun H => SqL X.K H a ws) _ O2 L2 H2 g2 (e1.trans e2) (by rw [enumF_len, ← t.length]; exact walk_from) (fun L3 O3 H3 le r => .inl (.inl (r.hp _ _ (le.hp _ _ s2)))) (fun i x L3 O3 H3 H4 hi le r y => ?_) r2
  rw [enumF_len] at hi
  obtain ⟨L4, le4, r4, is⟩ := pair_new (d := .int (n + (i : Nat))) (e := ds[i]) r y (fun v e => by cases e; exact .int _) (isL_nth t (e2.trans le) hi)
  exact ⟨L4, _, le4, r4, enumF_at (List.getElem?_eq_getElem hi), is⟩
end
section
variable {X : Cx} {Γ : Sg} {O : Ow} {k : KD} {e : Expr} {elt : Expr} {scope : Scope} {vs : List Nat} {t : Tg} {fin : List D → Prop}
/-- facts handed to an expression -/
theorem e_va {x : Str} {i : Nat} (hv : Va X x i) (h : Va X x i → WE X e Γ O k) : WE X e Γ O k := h hv
theorem e_gd {x : Str} {d : D} (hv : Gd X x d) (h : Gd X x d → WE X e Γ O k) : WE X e Γ O k := h hv
theorem e_kn {x : Str} {j : Nat} {S : SpD} (hv : Kn X x j S) (h : Kn X x j S → WE X e Γ O k) : WE X e Γ O k := h hv
theorem e_bn {x : Str} {id : String} (hv : Bn X x id) (h : Bn X x id → WE X e Γ O k) : WE X e Γ O k := h hv
theorem e_bt {x : Str} {T : String} (hv : Bt X x T) (h : Bt X x T → WE X e Γ O k) : WE X e Γ O k := h hv
def All2 {α : Type} (p : α → D → Prop) (l : List α) (ds : List D) : Prop := ds.length = l.length ∧ ∀ (i : Nat) a y, l[i]? = some a → ds[i]? = some y → p a y
theorem All2.cons {α : Type} {p : α → D → Prop} {a : α} {l : List α} {ds : List D} (h : All2 p (a :: l) ds) : ∃ y es, ds = y :: es ∧ p a y ∧ All2 p l es := by
  obtain ⟨h1, h2⟩ := h
  cases ds with
  | nil => simp at h1
  | cons y es => exact ⟨y, es, rfl, h2 0 a y rfl rfl, by simpa using h1, fun i b z e1 e2 => h2 (i + 1) b z e1 e2⟩
theorem All2.nil {α : Type} {p : α → D → Prop} {ds : List D} (h : All2 p [] ds) : ds = [] := List.eq_nil_of_length_eq_zero h.1
theorem lc_anyL {α : Type} (l : List α) (g : α → D) (p : α → D → Prop) (hz : l.length ≤ 1000) (h : ∀ a, a ∈ l → ∀ O2, Agr O O2 → ∃ Γ2, tgD t (g a) (wipeD Γ vs) = some Γ2 ∧ BE X scope elt Γ2 O2 fun y O4 => O4 = O2 ∧ p a y)
    (hf : ∀ acc : List D, All2 p l acc → fin acc) : LcD X elt [] scope vs t Γ (l.map g) O fin := by
  refine lc_any (fun i y => ∃ a, l[i]? = some a ∧ p a y) (by rw [List.length_map]; exact hz) (fun i d hd O2 ag => ?_) fun acc hl hp => ?_
  · rw [List.getElem?_map] at hd
    cases ha : l[i]? with
    | none => rw [ha] at hd; cases hd
    | some a =>
      rw [ha] at hd
      obtain rfl := Option.some.inj hd
      obtain ⟨Γ2, h1, h2⟩ := h a (List.mem_of_getElem? ha) O2 ag
      exact ⟨Γ2, h1, fun s H C cl fp => (h2 s H C cl fp).imp fun y O4 ⟨e1, hy⟩ => ⟨e1, a, rfl, hy⟩⟩
  · refine hf acc ⟨by rw [hl, List.length_map], fun i a y ha hy => ?_⟩
    obtain ⟨b, hb, hp⟩ := hp i y hy
    rw [ha] at hb
    rw [Option.some.inj hb]
    exact hp
theorem all2_map {α : Type} {f : α → D} : ∀ {l : List α} {acc : List D}, All2 (fun a y => y = f a) l acc → acc = l.map f
  | [], _, h => h.nil
  | a :: l, acc, h => by
    obtain ⟨y, es, rfl, rfl, h2⟩ := h.cons
    rw [all2_map h2]
    rfl
theorem lc_mapL {α : Type} (l : List α) (g : α → D) (f : α → D) (hz : l.length ≤ 1000) (h : ∀ a, a ∈ l → ∀ O2, Agr O O2 → ∃ Γ2, tgD t (g a) (wipeD Γ vs) = some Γ2 ∧ BE X scope elt Γ2 O2 fun y O4 => O4 = O2 ∧ y = f a)
    (hf : fin (l.map f)) : LcD X elt [] scope vs t Γ (l.map g) O fin := lc_anyL l g (fun a y => y = f a) hz h fun acc ha => by
  rw [all2_map ha]
  exact hf
end
/-! ### an own class under a local name -/
section
variable {X : Cx} {Γ : Sg} {O : Ow} {k : KD}
structure Kl (X : Cx) (C : Addr) (j : Nat) (S : SpD) : Prop where
  ex : ∃ (f : Addr) (fd : FuncData) (ps : List Str), FnG X.prog X.w X.K X.mg X.base CX0 j f fd ps (spOf X.K S) ∧ Mk X.K C f ∧ Binds X.K fd ps []
theorem Pc.kl {P : Program} {w : World} {K : PySem.W.Frag} {mg : Str → Option Value} {base : Heap} {x : Str} {C : Addr} {j : Nat} {S : SpD} (F : Pc P w K mg base x C j S) {X : Cx} (e1 : X.prog = P) (e2 : X.w = w) (e3 : X.K = K) (e4 : X.mg = mg) (e5 : X.base = base) : Kl X C j S := by
  subst e1 e2 e3 e4 e5
  exact ⟨F.ex⟩
/-- x(e, ..), x a name of a slot that holds the class -/
theorem we_makeS {x : Str} {i : Nat} {C : Addr} {j : Nat} {S : SpD} {e : Expr} {es : List Expr} {p pos : Pos} (F : Kl X C j S) (hx : Va X x i) (hi : Γ[i]? = some (some (.own C))) (hgd : X.A.guards = some []) (hr : Room (j + 1) X.A) (he : starEach (e :: es) X.env = (false, eval e X.env) :: starEach es X.env) (hpl : (backTo pos (starEach es X.env)).any (·.1) = false)
    (h : WA X (e :: es) Γ O fun ds O1 => ∀ p, O1 p = none → S (.own p :: ds) (put O1 p (.ins C [])) (fun d O2 => d = .non ∧ Fz k (.own p) O2) fun _ _ _ => False) : WE X (.Call (.Name x p) (e :: es) [] pos) Γ O k := we_fz fun σ L H hs hR Q q pins s I => by
  obtain ⟨f, fd, ps, G, M, hb⟩ := F.ex
  obtain ⟨vc, ec, ic⟩ := hs.at_ i _ hi
  obtain rfl := ic.own'
  refine wpAny_Call_Name_kw (thn ((we_var (k := fun d O1 => d = .own C ∧ O1 = O) (pos := p) hx hi ⟨rfl, rfl⟩) σ L H hs hR (fun v H1 => v = .ref C ∧ ∃ L1, L.le L1 ∧ R X.K L1 O H1) (fun v d O1 L1 H1 ⟨a, b⟩ le i1 r1 => by subst a; subst b; exact ⟨i1.own', L1, le, r1⟩) pins s I) fun u0 s0 ⟨v0, H0, I0, r0, e0, L00, le0, R0⟩ => ?_)
  subst e0
  cases r0
  refine PySem.W.callWith_K (h₀ := X.base) I.ok.mod.kin M.kp (thn (h σ L00 H0 (hs.mono le0) R0 (fun vs H1 => ∃ ds O1 L1, (∀ p, O1 p = none → S (.own p :: ds) (put O1 p (.ins C [])) (fun d O2 => d = .non ∧ Fz k (.own p) O2) fun _ _ _ => False) ∧ L.le L1 ∧ IsL X.K L1 vs ds ∧ R X.K L1 O1 H1) (fun vs ds O1 L1 H1 a b c d => ⟨ds, O1, L1, a, le0.trans b, c, d⟩) pos pins s0 I0)
    fun us s1 ⟨vs, H1, I1, rv, ds, O1, L1, h1, le1, is1, r1⟩ => ⟨I1.kIn, ?_⟩) he hpl
  have n1 : H1 (s1.heap.objs.size + 1) = none := I1.hok.fresh (Nat.le_succ _)
  have n2 : H1 s1.heap.objs.size = none := I1.hok.fresh (Nat.le_refl _)
  have ne : s1.heap.objs.size + 1 ≠ s1.heap.objs.size := Nat.succ_ne_self _
  have I2 := Inv.made (C := C) I1
  have ra := r1.aside (o := .own (s1.heap.objs.size + 1)) n2
  have n3 : upd H1 s1.heap.objs.size (.own (s1.heap.objs.size + 1)) (s1.heap.objs.size + 1) = none := by rw [upd_ne ne]; exact n1
  have rb := ra.newOwn (p := s1.heap.objs.size + 1) (o := .ins C s1.heap.objs.size []) (od := .ins C []) n3 ⟨_, [], upd_same, rfl, .nil⟩
  have sp := sp_of (K := X.K) (L := L1) (Q := fun v H2 => v = .non ∧ Q (.ref (s1.heap.objs.size + 1)) H2) (h1 _ (ra.free n3).2.1) (.cons (.own (s1.heap.objs.size + 1)) is1) rb fun v d O2 L2 H2 ⟨hd, hk⟩ le2 i2 r2 => by
    subst hd
    exact ⟨i2.non', q _ _ _ _ _ hk (le1.trans le2) (.own _) r2⟩
  have r2 : Vals (V.ref (s1.heap.objs.size + 1) :: vs) (Value.ref (s1.heap.objs.size + 1) :: us) := .cons rfl rv
  have hl : (Value.ref (s1.heap.objs.size + 1) :: us ++ []).length = ps.length := by
    rw [List.append_nil, ← r2.length]; exact G.ln _ _ _ _ sp
  refine wpAny_call (make_map (f := f) I1.kIn M.makes M.init (beq_iff_eq.mp M.fn) (codeAny_mono (G.go _ X.stack _ _ ⟨Value.ref (s1.heap.objs.size + 1) :: us, []⟩ (Value.ref (s1.heap.objs.size + 1) :: us ++ []) _ _ E0 (make_guards hgd) (hr.make C us []) (I2.env0.make C us []) (hb _ _ I2.kIn hl) (by rw [List.append_nil]; exact r2) sp) fun r s' hq => ?_))
  match r, hq with
  | .ok (.ret u), hq =>
    obtain ⟨v, H', I3, rv', ev, q3⟩ := I2.after hq
    subst ev
    exact ⟨rv', ⟨V.ref (s1.heap.objs.size + 1), H', I3, rfl, q3⟩⟩
  | .ok .next, hq => exact hq.elim
  | .ok .brk, hq => exact hq.elim
  | .ok .cont, hq => exact hq.elim
  | .error e, hq => exact hq.elim
/-- own lists compared -/
theorem own_py {p : Addr} {ds : List D} {v : V} {L : Lg} {H : Hp} (hr : R X.K L O H) (ho : O p = some (.lst ds)) (hp : (D.lst ds).isPy = true) (i : Is X.K L v (.own p)) : Dp X.K H v (D.lst ds).py := by
  obtain rfl := i.own'
  obtain ⟨xs, h1, h2⟩ := own_lst hr ho
  exact .lst (.inl (.inl h1)) (IsL.dp hr h2 (by simpa [D.isPy] using hp))
theorem wo_neO {p : Addr} {ds : List D} {e : D} (ho : O p = some (.lst ds)) (hu : X.A.units + 64 < cLine) (h1 : (D.lst ds).isPy = true) (h2 : e.isPy = true) (s1 : SeqAt.shaped (D.lst ds).py = true) (s2 : SeqAt.shaped e.py = true) (h : k (.bl (!PyData.eqv (D.lst ds).py e.py)) O) : WO X (compareOp .NotEq) (.own p) e O k := fun vx vy L H ix iy hr Q q =>
  toO (op_neD hu) ⟨(D.lst ds).py, e.py, own_py hr ho h1 ix, iy.dp hr h2, s1, s2, q _ _ _ _ _ h (.refl L) (.bl _) hr⟩
end
end DL
/-! DL, part 3: an own +, +=, exceptions without attributes -/
namespace DL
open PySem PySem.Spec PyProof.Rows L2 ClX
section
variable {X : Cx} {Γ : Sg} {O : Ow} {k : KD} {C : Addr} {j : Nat} {S : SpD}
theorem wo_addOwn {x y : D} {fds gds : List (Str × D)} (F : Km X C "__add__" j S) (hgd : X.A.guards = some []) (hr : Room j X.A) (hsf : PySem.W.selfFirst X.K C = true) (hx : InD O x C fds) (hy : InD O y C gds) (h : S [x, y] O k fun _ _ _ => False) : WO X (binaryOp .Add) x y O k := fun vx vy L H ix iy hR Q q => by
  obtain ⟨a, dx, fs, rfl, ha, _, _⟩ := inD_of hR hx ix
  obtain ⟨b, dy, gs, rfl, hb, _, _⟩ := inD_of hR hy iy
  obtain ⟨f, fd, ps, G, M, bd⟩ := F.ex
  intro pins s σ v u I rx ry
  cases rx
  cases ry
  obtain ⟨mA, J,
      _⟩ := ins_get I.hok ha
  obtain ⟨mB, J', _⟩ := ins_get I.hok hb
  obtain ⟨od, J, _⟩ := J.look
  obtain ⟨od', J',
      _⟩ := J'.look
  obtain ⟨m, hF⟩ := I.fr
  refine PySem.W.binop_K (op := .Add) hF I.ok.mod.kin J J'.type hsf M.at_ M.fn ?_
  refine wpAny_mono (run_gA (us := [.ref a, .ref b]) (vs := [.ref a, .ref b]) G hgd hr I.env0 bd I (.cons rfl (.cons rfl .nil)) (sp_of h (.cons ix (.cons iy .nil)) hR q)) (fun w s' z => ?_) fun _ _ e => e
  obtain ⟨z', H',
      I', rz, qz⟩ := z
  exact cmp_back rz ⟨z', H', I', rz, qz⟩
/-! ### name += e -/
def mro2 (K : PySem.W.Frag) (C : Addr) : Bool := (PySem.W.clsIn K C).any fun cd => cd.mro == [.ref C, .type "object"]
theorem no_iadd {K : PySem.W.Frag} {M : Model} {h : Heap} (X : K.In h) (hm : mro2 K C = true) (hn : PySem.W.findIn K (.ref C) "__iadd__" = some none) : PySem.W.Looks M h (fillsInplaceSlot (.ref C) "add" true) false := by
  obtain ⟨cd, hcd, he⟩ := PySem.W.any_some hm
  have hmro : cd.mro = [.ref C, .type "object"] := beq_iff_eq.mp he
  intro A Q E s k q
  unfold fillsInplaceSlot
  refine wpAny_bind ((PySem.W.looks_clsIn X hcd).andThen (f := fun cd => pure cd.mro) .now A _ E s k ?_)
  rw [hmro, List.anyM_cons]
  refine wpAny_bind (wpAny_bind (PySem.W.looks_findIn X hn A _ E s k ?_))
  refine wpAny_pure ?_
  rw [List.anyM_cons]
  dsimp only
  refine wpAny_bind ?_
  refine wpAny_bind (wpAny_of_eq (show typeLookup (.type "object") (dunderI "add") = pure none from by rw [typeLookup_type, builtinLookup_eq_fast]; kernel_rfl) (wpAny_pure ?_))
  exact wpAny_pure q
theorem ws_augOwn {x : Str} {i : Nat} {e : Expr} {pos pos' : Pos} {De : DE} {dx : D} {fds : List (Str × D)} (F : Km X C "__add__" j S) (hgd : X.A.guards = some []) (hr : Room j X.A) (hsf : PySem.W.selfFirst X.K C = true) (hm : mro2 X.K C = true) (hni : PySem.W.findIn X.K (.ref C) "__iadd__" = some none)
    (hv : Vs X x i) (hi : Γ[i]? = some (some dx)) (hx : ∀ O1, InD O1 dx C fds) (h : WE X e Γ O fun y O1 => (∃ gds, InD O1 y C gds) ∧ S [dx, y] O1 (fun z O2 => De.nx (Γ.set i (some z)) O2) fun _ _ _ => False) : WS X (.AugAssign (.Name x pos') .Add e pos) Γ O De := fun σ L H hs hR E q => by
  obtain ⟨f, fd, ps, G, M, bd⟩ := F.ex
  obtain ⟨vx, ex, ix⟩ := hs.at_ i _ hi
  let ti : TIp := fun vx vy H1 Q => ∃ (L1 : Lg) (y : D) (O1 : Ow) (k : KD) (gds : List (Str × D)), Is X.K L1 vx dx ∧ Is X.K L1 vy y ∧ R X.K L1 O1 H1 ∧ InD O1 y C gds ∧ S [dx, y] O1 k (fun _ _ _ => False) ∧ Fol X.K L1 k Q
  have ho : PIp X .Add ti := by
    intro pins s σ H x y v u Q I rx ry ⟨L1, dy, O1, k, gds, i1, i2, r1, hy, hS, hq⟩
    obtain ⟨a, dx2, fs, rfl, ha, _, _⟩ := inD_of r1 (hx O1) i1
    obtain ⟨b, dy2, gs, rfl, hb, _, _⟩ := inD_of r1 hy i2
    cases rx
    cases ry
    obtain ⟨mA, J,
        _⟩ := ins_get I.hok ha
    obtain ⟨mB, J', _⟩ := ins_get I.hok hb
    obtain ⟨od, J, _⟩ := J.look
    obtain ⟨od', J',
        _⟩ := J'.look
    have KX := I.kIn
    obtain ⟨cd, hcd, hm1⟩ := PySem.W.any_some hsf
    obtain ⟨rest, hm2⟩ : ∃ rest, cd.mro = .ref C :: rest := by
      cases z : cd.mro with
      | nil => rw [z] at hm1; cases hm1
      | cons w r => rw [z] at hm1; exact ⟨r, by rw [List.head?_cons] at hm1; cases (beq_iff_eq.mp hm1); rfl⟩
    have main : wpAny (model X.prog X.w) X.A (call (.ref f) [.ref a, .ref b]) (PySem.W.CmpBack (EP X pins σ Q)) X.xe s := by
      refine wpAny_mono (run_gA (us := [.ref a, .ref b]) (vs := [.ref a, .ref b]) G hgd hr I.env0 bd I (.cons rfl (.cons rfl .nil)) (sp_of hS (.cons i1 (.cons i2 .nil)) r1 hq) (X := X) (H := H) (σ := σ) (pins := pins) (Q := Q)) (fun w s' z => ?_) fun _ _ e => e
      obtain ⟨z', H',
          I', rz, qz⟩ := z
      exact cmp_back rz ⟨z', H', I', rz, qz⟩
    unfold inplaceOp
    refine wpAny_holding (wpAny_bind (J.type.here ?_))
    refine wpAny_bind ((no_iadd KX hm hni).here ?_)
    refine wpAny_bind (m := binaryOp1 Operator.Add.info.snd (.ref a) (.ref b)) ?_
    unfold binaryOp1
    refine wpAny_bind (J.type.here (wpAny_bind (J'.type.here (wpAny_bind ((PySem.W.fills_K (nm := "add") KX hcd hm2 M.at_).here ?_)))))
    simp only [beq_self_eq_true,
        if_true]
    refine wpAny_bind (wpAny_pure
        ?_)
    simp only [Bool.and_false,
        Bool.false_eq_true, if_false, Bool.false_and]
    refine wpAny_bind (wpAny_pure
        ?_)
    simp only [Bool.false_eq_true,
        if_false]
    refine wpAny_bind (m := tryMethod (.ref a) _ (.ref b)) ?_
    unfold tryMethod
    refine wpAny_bind (PySem.W.special_fn KX J M.at_ (beq_iff_eq.mp M.fn) (wpAny_mono main (fun v s' z => ?_) fun _ _ e => e))
    cases v <;> first | exact z.elim | exact wpAny_pure (wpAny_pure (wpAny_pure z))
  refine toS (ps_aug hv.nd hv.hN hv.hl (pu e) ho hv.hf) ?_
  refine ⟨vx, ex, ?_⟩
  refine h σ L H hs hR _ fun vy y O1 L1 H1 h1 e1 i1 r1 => ?_
  obtain ⟨⟨gds, hy⟩, hS⟩ := h1
  exact ⟨L1, y, O1, _, gds, ix.mono e1, i1, r1, hy, hS, fun v z O2 L2 H2 hk le i2 r2 => q.nx _ _ _ _ _ hk (e1.trans le) ((hs.mono (e1.trans le)).set i2 i) r2⟩
end
/-! ### exceptions without attributes -/
abbrev KG0 := Addr → Sg → Ow → Prop
structure Tx0 (X : Cx) (L0 : Lg) (kg : KG0) : Prop where
  ex : ∃ W : WX, Takes X W ∧ ∀ (C : Addr) (Γ : Sg) (O : Ow) (σ : L2.St) (L : Lg) (H : Hp), kg C Γ O → L0.le L → Sl X.K L σ Γ → R X.K L O H → W (.ref C) none σ H
/-- the exception class x at C, without an __init__ of its own -/
structure Ke (X : Cx) (x : Str) (C : Addr) : Prop where
  ex : ∃ (bmB : List Value) (B newId initId : String), ExcBaseFacts B newId initId bmB ∧ PySem.W.excIn X.K C bmB newId = true
  kp : PySem.W.keepIn X.K (.ref C) = true
  exC : PySem.W.subIn X.K (.ref C) (.type "BaseException") = some true
  tyC : PySem.W.typeIn X.K (.ref C) = some (.type "type")
  mg : X.mg x = some (.ref C)
  gl : Gl X x
  db : (x == ("__debug__" : Str)) = false
section
variable {X : Cx} {L0 : Lg} {kg : KG0} {Γ : Sg} {O : Ow} {k : KD} {De : DE} {C : Addr} {j : Nat}
theorem xs_raise0 {x : Str} {p cpos pos : Pos} (hc : X.calm = true) (tx : Tx0 X L0 kg) (F : Ke X x C) (h : kg C Γ O) : WSx X L0 (.Raise (some (.Call (.Name x p) [] [] cpos)) none pos) Γ O De := fun σ L H l0 hs hR E q => by
  obtain ⟨W, tk, tw⟩ := tx.ex
  obtain ⟨bmB, B, newId, initId, F1, q1⟩ := F.ex
  have mk : PMk X (.Call (.Name x p) [] [] cpos) (fun _ H Q => Q (.ref C) none H) := by
    intro pins s σ H Q I h
    refine wpAny_Call_Name_kw (ld_glob I F.gl F.mg ?_ F.db)
    refine PySem.W.callWith_K0 (first := []) I.kIn F.kp ?_
    show wpAny _ _ (call (.ref C) []) _ _ _
    obtain ⟨bm, N, nm, qn, bs, hdct, sn, sub, ab, col, dd, k0, k1, k2, k3, k5, mN, hC, hN, hni, T⟩ := exc_obj I.kIn q1
    obtain ⟨hp, g,
        d, tk, os⟩ := s
    exact wpAny_call_exc_subT F1 T hC hN hni (fun h' e hm => mk_of I hm (raises_own F.exC F.tyC) h (I.hok.gone hm.new)) (Nat.zero_le _)
  refine toS (ps_raise hc tk mk) ?_
  exact tw C Γ O σ L H h l0 hs hR
/-- promises of what raises so -/
abbrev SpD0 := List D → Ow → KD → (Addr → Ow → Prop) → Prop
def spOf0 (K : PySem.W.Frag) (S : SpD0) : Sp := fun vs H Q E => ∃ (ds : List D) (L : Lg) (O : Ow) (k : KD) (kx : Addr → Ow → Prop), IsL K L vs ds ∧ R K L O H ∧ S ds O k kx ∧ Fol K L k Q ∧ ∀ C O' L' H', kx C O' → L.le L' → R K L' O' H' → E (.ref C) none H'
end
section
variable {base : Heap} {mg : Str → Option Value} {K : PySem.W.Frag} {w : World} {P : Program} {C : Addr}
theorem fn_bodyX0 {x qual : Str} {st : Stmt} {f : Addr} {fd : FuncData} {N ps : List Str} {j : Nat} {S : SpD0} (F : FunX K x qual st f fd) (Sc : FnScope N ps (defScope st)) (len : ∀ ds O k kx, S ds O k kx → ds.length = ps.length)
    (h : ∀ (cdv : Value) (A : Around) (outer : List Env) (s : Shared) (H : Hp) (E : XK), A.guards = some [] → Room j (A.deeper (envOfC qual (defScope st) s.heap.objs.size f cdv)) → ∀ L0 ds O k kx, S ds O k kx →
      Tx0 (Bx P w K mg base N qual st f cdv A outer s H E) L0 (fun C _ O' => kx C O') →
      WSsx (Bx P w K mg base N qual st f cdv A outer s H E) L0 (defBody st) (gst N.length ds) O { nx := fun _ O' => Ret k .non O', rt := Ret k }) : FnG P w K mg base (L2.CX P w) (j + 1) f fd ps (spOf0 K S) := by
  refine FnG.body F Sc (fun vs H Q E ⟨ds, L, O, k, kx, hi, _, hs, _⟩ => hi.length.trans (len ds O k kx hs)) fun cdv A outer s H vs Q E hg hr hsp => ?_
  obtain ⟨ds, L, O, k, kx, hi, hR, hS, hk, hx⟩ := hsp
  have tx : Tx0 (Bx P w K mg base N qual st f cdv A outer s H E) L (fun C _ O' => kx C O') :=
    ⟨⟨fun cls d _ H => E cls d H, takes_of rfl rfl rfl rfl, fun C Γ O' σ L' H' a le _ r => hx C O' L' H' a le r⟩⟩
  have z := h cdv A outer s H E hg hr L ds O k kx hS tx (start N vs) L H (.refl L) (sl_start hi) hR { nx := fun _ H' => Q .non H', rt := Q }
    ⟨fun Γ' O' σ' L' H' a le _ r => fol_ret hk .non .non O' L' H' a le .non r, fol_ret hk, fun _ _ _ _ _ a => a.elim, fun _ _ _ _ _ a => a.elim⟩
  exact fun pins s' I => z pins s' I
/-- a method that may raise so -/
structure Pk0 (P : Program) (w : World) (K : PySem.W.Frag) (mg : Str → Option Value) (base : Heap) (C : Addr) (m : Str) (j : Nat) (S : SpD0) : Prop where
  ex : ∃ (f : Addr) (fd : FuncData) (ps : List Str), FnG P w K mg base (L2.CX P w) j f fd ps (spOf0 K S) ∧ Meth K C m f ∧ Binds K fd ps []
theorem Pk0.of {C : Addr} {m qual : Str} {st : Stmt} {N ps : List Str} {j : Nat} {S : SpD0} (T : Dm K C m qual st ps) (Sc : FnScope N ps (defScope st)) (len : ∀ ds O k kx, S ds O k kx → ds.length = ps.length)
    (h : ∀ (f : Addr) (cdv : Value) (A : Around) (outer : List Env) (s : Shared) (H : Hp) (E : XK), A.guards = some [] → Room j (A.deeper (envOfC qual (defScope st) s.heap.objs.size f cdv)) → ∀ L0 ds O k kx, S ds O k kx →
      Tx0 (Bx P w K mg base N qual st f cdv A outer s H E) L0 (fun C _ O' => kx C O') →
      WSsx (Bx P w K mg base N qual st f cdv A outer s H E) L0 (defBody st) (gst N.length ds) O { nx := fun _ O' => Ret k .non O', rt := Ret k }) : Pk0 P w K mg base C m (j + 1) S := by
  obtain ⟨f, fd, hm, F, hb⟩ := T.ex
  exact ⟨⟨f, fd, ps, fn_bodyX0 F Sc len (h f), hm, hb⟩⟩
structure Km0 (X : Cx) (C : Addr) (m : Str) (j : Nat) (S : SpD0) : Prop where
  ex : ∃ (f : Addr) (fd : FuncData) (ps : List Str), FnG X.prog X.w X.K X.mg X.base (L2.CX X.prog X.w) j f fd ps (spOf0 X.K S) ∧ Meth X.K C m f ∧ Binds X.K fd ps []
theorem Pk0.km {C : Addr} {m : Str} {j : Nat} {S : SpD0} (F : Pk0 P w K mg base C m j S) {X : Cx} (e1 : X.prog = P) (e2 : X.w = w) (e3 : X.K = K) (e4 : X.mg = mg) (e5 : X.base = base) : Km0 X C m j S := by
  subst e1 e2 e3 e4 e5
  exact ⟨F.ex⟩
end
section
variable {X : Cx} {L0 : Lg} {kg : KG0} {Γ : Sg} {O : Ow} {k : KD} {De : DE} {C : Addr} {j : Nat} {S : SpD0}
/-- a + b, a and b instances of the class, which may raise -/
theorem ex_add0 {a b : Expr} {pos : Pos} (F : Km0 X C "__add__" j S) (tx : Tx0 X L0 kg) (hgd : X.A.guards = some []) (hr : Room j X.A) (hsf : PySem.W.selfFirst X.K C = true)
    (h : WE X a Γ O fun x O1 => WE X b Γ O1 fun y O2 => (∃ fds gds, InD O2 x C fds ∧ InD O2 y C gds) ∧ S [x, y] O2 k fun Ce O3 => ∃ O4, DL.Sub O4 O3 ∧ kg Ce Γ O4) : WEx X L0 (.BinOp a .Add b pos) Γ O k := fun σ L H l0 hs hR Q q pins s I => by
  obtain ⟨W, tk, tw⟩ := tx.ex
  obtain ⟨f, fd, ps, G, M, bd⟩ := F.ex
  refine wpAny_BinOp (binT (pu a) (pu b) I (R := fun vx vy H2 => ∃ (L2 : Lg) (x y : D) (O2 : Ow), L.le L2 ∧ Is X.K L2 vx x ∧ Is X.K L2 vy y ∧ R X.K L2 O2 H2 ∧ (∃ fds gds, InD O2 x C fds ∧ InD O2 y C gds) ∧ S [x, y] O2 k fun Ce O3 => ∃ O4, DL.Sub O4 O3 ∧ kg Ce Γ O4)
    (h σ L H hs hR _ fun vx x O1 L1 H1 h1 e1 i1 r1 => h1 σ L1 H1 (hs.mono e1) r1 _ fun vy y O2 L2 H2 h2 e2 i2 r2 => ⟨L2, x, y, O2, e1.trans e2, i1.mono e2, i2, r2, h2.1, h2.2⟩) fun v u s2 vx vy H2 I2 rx ry hv => ?_)
  obtain ⟨L2, x, y, O2, le, i1, i2, r2, ⟨fds, gds, hx, hy⟩, hS⟩ := hv
  obtain ⟨p1, dx, fs, rfl, ha, _, _⟩ := inD_of r2 hx i1
  obtain ⟨p2, dy, gs, rfl, hb, _, _⟩ := inD_of r2 hy i2
  cases rx
  cases ry
  obtain ⟨mA, J, _⟩ := ins_get I2.hok ha
  obtain ⟨mB, J', _⟩ := ins_get I2.hok hb
  obtain ⟨od, J, _⟩ := J.look
  obtain ⟨od', J',
      _⟩ := J'.look
  obtain ⟨m, hF⟩ := I2.fr
  refine PySem.W.binop_K (op := .Add) hF I2.ok.mod.kin J J'.type hsf M.at_ M.fn ?_
  have sp : spOf0 X.K S [V.ref p1, V.ref p2] H2 Q (fun cls d H' => W cls d σ H') :=
    ⟨_, L2, O2, k, _, .cons i1 (.cons i2 .nil), r2, hS, q.le le, fun Ce O3 L3 H3 ⟨O4, sub, hk⟩ le3 r3 => tw Ce Γ O4 σ L3 H3 hk (l0.trans (le.trans le3)) (hs.mono (le.trans le3)) (r3.sub sub)⟩
  have hl : ([Value.ref p1, Value.ref p2] ++ []).length = ps.length := by
    have z := G.ln _ _ _ _ sp
    rw [List.append_nil]
    exact z
  refine wpAny_call (codeAny_mono (G.go X.A X.stack s2 H2 ⟨[.ref p1, .ref p2], []⟩ ([.ref p1, .ref p2] ++ []) _ Q _ hgd hr I2.env0 (bd s2 [.ref p1, .ref p2] I2.kIn hl) (by rw [List.append_nil]; exact .cons rfl (.cons rfl .nil)) sp) fun r s' hq => ?_)
  match r, hq with
  | .ok (.ret u), hq =>
    obtain ⟨z', H', I', rz, qz⟩ := I2.after hq
    exact cmp_back rz ⟨z', H', I', rz, qz⟩
  | .ok .next, hq => exact hq.elim
  | .ok .brk, hq => exact hq.elim
  | .ok .cont, hq => exact hq.elim
  | .error e, hq => exact tk _ _ (XE.of_call I2 (fun _ _ _ h => h) hq)
theorem ex_fld {e : Expr} {f : Str} {pos} (hb : attributeBase e f X.env (eval e X.env) = eval e X.env) (h : WEx X L0 e Γ O fun x O1 => ∃ C fds d, InD O1 x C fds ∧ Cls X.K C ∧ NoAttr X.K C f ∧ fds.lookup f = some d ∧ k d O1) : WEx X L0 (.Attribute e f pos) Γ O k := fun σ L H l0 hs hr Q q => by
  refine toE (pe_fld (pu e) hb) ?_
  refine h σ L H l0 hs hr _ fun x dx O1 L1 H1 h1 e1 i1 r1 => ?_
  obtain ⟨C, fds, d, hi, hc, hn, hl, h2⟩ := h1
  obtain ⟨a, dx, fs, rfl, s1, s2, s3⟩ := inD_of r1 hi i1
  obtain ⟨v, g1, g2⟩ := (lookup_is s2 s3).1 d hl
  exact ⟨a, C, dx, fs, v, rfl, s1, hc, hn, g1, q _ _ _ _ _ h2 e1 g2 r1⟩
/-- try: body / except x as n: suite, what is caught has no attributes -/
theorem ws_tryAs0 {x n : Str} {c : Value} {i : Nat} {body suite : List Stmt} {b₀ : Stmt} {np pos pos' : Pos} (kg : KG0) (hs : X.stack = X.env :: X.outer) (hf : X.env.frame = some X.env.locals) (hN : X.N.Nodup) (hi : X.N[i]? = some n) (hln : X.env.kindOf n = some .local) (hc : Names X x c)
    (hb : ∀ (L0 : Lg) (pn : List (Addr × Obj)) (xe : Value → Shared → Prop), PassesOwn (model X.prog X.w) X.A X.env xe → Tx0 (X.tr pn xe) L0 kg → WSsx (X.tr pn xe) L0 body Γ O De)
    (hh : ∀ C Γ' O', kg C Γ' O' → PySem.W.exmOne X.K (.ref C) c = some true ∧ ∀ (a : Addr) (oe : Obj) (pn : List (Addr × Obj)), Zc (.ref C) none oe → (∃ vs, oe.data = .fields vs) →
      WSs (X.suite a ((a, oe) :: pn)) (b₀ :: suite) (Γ'.set i (some (.own a))) O' (De.gone i)) :
    WS X (.Try body [.ExceptHandler (some (.Name x np)) (some n) (b₀ :: suite) pos'] [] [] pos) Γ O De := fun σ L H hsl hr E q => by
  let tb : WX → TS := fun W D σ H => ∀ (pn : List (Addr × Obj)) (xe : Value → Shared → Prop), Takes (X.tr pn xe) W → PassesOwn (model X.prog X.w) X.A X.env xe → uSs (X.tr pn xe) body D σ H
  let ts : Addr → Value → Option Addr → TS := fun a cls d D σ H => ∀ (oe : Obj) (pn : List (Addr × Obj)), Zc cls d oe → (∃ vs, oe.data = .fields vs) → uSs (X.suite a ((a, oe) :: pn)) (b₀ :: suite) D σ H
  refine toS (ps_try_as (tb := tb) (ts := ts) (Wout := fun _ _ _ _ => False) hs hf hN hi hln hc (fun u s' ⟨_, _, _, _, _, _, _, _, _, _, _, _, _, _, _, _, w⟩ => w.elim)
    (fun W pn xe tk po => ⟨fun pins s σ H D I h => h pn xe tk po pins s I⟩) (fun a oe cls d pn hz hv => ⟨fun pins s σ H D I h => h oe pn hz hv pins s I⟩)) ?_
  intro pn xe tk po
  have tx : Tx0 (X.tr pn xe) L kg := ⟨⟨_, tk, fun C Γ' O' σ' L' H' hk le hsl' r => by
    obtain ⟨z1, z2⟩ := hh C Γ' O' hk
    refine ⟨true, z1, fun _ a ha oe pn' hz hv => ?_, fun z => by cases z⟩
    exact z2 a oe pn' hz hv (σ'.set i (some (.ref a))) L' H' (hsl'.set (.own a) i) r _ (fol_gone (q.le le) i)⟩⟩
  exact hb L pn xe po tx σ L H (.refl L) hsl hr E q
/-- isinstance(e, P), P a class -/
theorem wc_isiX0 {a C P : Addr} {oe : Obj} {pn : List (Addr × Obj)} {b : Bool} (T : ExcC X.K C) (hz : Zc (.ref C) none oe) (hv : ∃ vs, oe.data = .fields vs) (hk : PySem.W.kitOne X.K (.ref C) (.ref P) = some b)
    (h : k (.bl b) O) : DL.WC (X.suite a ((a, oe) :: pn)) (.builtin "isinstance") [.own a, .own P] O k := fun vs L H is hr Q q => by
  obtain ⟨v, u, rfl, i1, i2⟩ := is.two'
  obtain rfl := i1.own'
  obtain rfl := i2.own'
  have fin : Q (.bl b) H := q _ _ _ _ _ h (.refl L) (.bl _) hr
  intro pins s σ us I rx
  cases rx with
  | cons r1 t1 =>
    cases t1 with
    | cons r2 t2 =>
      cases t2
      cases r1
      cases r2
      obtain ⟨ha, _⟩ := I.pin (a, oe) (List.mem_append_left _ List.mem_cons_self)
      obtain ⟨ws, hws⟩ := hv
      have J : PySem.W.InstAt s.heap a oe C none := ⟨ha, hz.1, by unfold PySem.W.notCls; rw [hws] <;> rfl, by rw [hz.2]; exact trivial⟩
      have hcl : (PySem.W.clsIn X.K C).isSome = true := by
        obtain ⟨cd, hc, _⟩ := PySem.W.any_some T.hd
        rw [hc]; rfl
      exact PySem.W.kia_one (PySem.W.kitx_exc hcl T.hg T.hk T.hs T.ha T.hn T.ht T.hm) I.kIn J hk (fun z => nomatch z) fun tk => ⟨.bl b, H, I.kept (t' := tk) fun _ _ z => z, rfl, fin⟩
end
end DL
/-! DL, part 4: tuple + tuple of any length, a list turned round -/
namespace DL
open PySem PySem.Spec PyProof.Rows L2 ClX
section
variable {X : Cx} {Γ : Sg} {O : Ow} {k : KD} {De : DE}
theorem wo_catA {xs ys : List D} (hz : xs.length + ys.length ≤ sizeLine) (h : k (.tup (xs ++ ys)) O) : WO X (binaryOp .Add) (.tup xs) (.tup ys) O k := fun vx vy L H ix iy hr Q q => by
  obtain ⟨a, vs, rfl, s, t⟩ := ix.tup'
  obtain ⟨b, us, rfl, s', t'⟩ := iy.tup'
  refine toO op_catA ⟨a, b, vs, us, rfl, rfl, hr.st s, hr.st s', by rw [t.length, t'.length]; exact hz, fun z => ?_, fun _ z => ?_, fun z1 z2 p hp => ?_⟩
  · have e : xs = [] := List.length_eq_zero_iff.mp (by rw [← t.length, z]; rfl)
    subst e
    exact q _ _ _ _ _ h (.refl L) iy hr
  · have e : ys = [] := List.length_eq_zero_iff.mp (by rw [← t'.length, z]; rfl)
    subst e
    rw [List.append_nil] at h
    exact q _ _ _ _ _ h (.refl L) ix hr
  · obtain ⟨L', le, i, r⟩ := hr.newT hp (t.append t')
    exact q _ _ _ _ _ h le i r
theorem isL_rev {K : PySem.W.Frag} {L : Lg} : ∀ {vs : List V} {ds : List D}, IsL K L vs ds → IsL K L vs.reverse ds.reverse
  | _, _, .nil => .nil
  | _, _, .cons a t => by
    rw [List.reverse_cons,
        List.reverse_cons]
    exact (isL_rev t).append (.cons a .nil)
theorem we_revL {e : Expr} {kk p1 p2 p3 pos} (h : WE X e Γ O fun d O1 => ∃ ds, SqD O1 d ds ∧ k (.lst ds.reverse) O1) : WE X (.Subscript e (.Slice none none (some (.UnaryOp .USub (.Constant (.int 1) kk p1) p2)) p3) pos) Γ O k := fun σ L H hs hr Q q => by
  refine toE (pe_revL (pu e)) ?_
  refine h σ L H hs hr _ fun vx d O1 L1 H1 h1 e1 i1 r1 => ?_
  obtain ⟨ds, hd, hk⟩ := h1
  obtain ⟨a, vs, rfl, s, t⟩ := sqD_of r1 hd i1
  refine ⟨a, vs, rfl, s, fun p hp => ?_⟩
  obtain ⟨L', le, i, r⟩ := r1.newL hp (isL_rev t)
  exact q _ _ _ _ _ hk (e1.trans le) i r
end
/-- an exception class without an __init__ of its own, known by its name -/
structure Pe0 (K : PySem.W.Frag) (mg : Str → Option Value) (x : Str) (C : Addr) : Prop where
  ex : ∃ (bmB : List Value) (B newId initId : String), ExcBaseFacts B newId initId bmB ∧ PySem.W.excIn K C bmB newId = true
  kp : PySem.W.keepIn K (.ref
      C) = true
  exC : PySem.W.subIn K (.ref C) (.type
      "BaseException") = some true
  tyC : PySem.W.typeIn K (.ref
      C) = some (.type "type")
  mg : mg x = some (.ref C)
theorem Pe0.ke {K : PySem.W.Frag} {mg : Str → Option Value} {x : Str} {C : Addr} (F : Pe0 K mg x C) {X : Cx} (e3 : X.K = K) (e4 : X.mg = mg) (gl : Gl X x) (db : (x == ("__debug__" : Str)) = false) : Ke X x C := by
  subst e3 e4
  exact ⟨F.ex, F.kp, F.exC, F.tyC, F.mg, gl, db⟩
end DL
/-! DL, part 5: a try of many clauses that bear a name -/
namespace DL
open PySem PySem.Spec PyProof.Rows L2 ClX
/-- the state in front of the clauses, an exception at a in flight -/
def AtCl (X : Cx) (pins : List (Addr × Obj)) (σ : L2.St) (H : Hp) (s : Shared) (a : Addr) (cls : Value) (d : Option Addr) : Prop :=
  ∃ (B : Heap) (sI : Shared), Inv X pins σ H sI ∧ (∀ b o, sI.heap.get? b = some o → b ∉ frs X.stack → B.get? b = some o) ∧ sI.heap.UpToSlots s.heap ∧
    HandSPX.FlyingZ B (X.env :: X.outer) a (Zc cls d) s.heap ∧ H a = none ∧ s.os = sI.os ∧ AllBare s.gens
/-- the clauses serve what W tells of -/
def Cl (X : Cx) (hs : List ExceptHandler) (D : Ends) (W : WX) : Prop :=
  ∀ pins σ H s a cls d, AtCl X pins σ H s a cls d → X.Ok → W cls d σ H → wpAny (model X.prog X.w) X.A (handleBy (.ref a) X.env hs) (SP X pins D) X.xe s
section
variable {X : Cx} {x n : Str} {c : Value} {i : Nat} {body suite : List Stmt} {b₀ : Stmt} {np pos pos' : Pos} {ts : Addr → Value → Option Addr → TS} {hs : List ExceptHandler} {D : Ends} {W : WX}
theorem cl_nil : Cl X hs D (fun _ _ _ _ => False) := fun _ _ _ _ _ _ _ _ _ h => h.elim
theorem AtCl.apart {pins : List (Addr × Obj)} {σ : L2.St} {H : Hp} {s : Shared} {a : Addr} {cls : Value} {d : Option Addr} (h : AtCl X pins σ H s a cls d) (hst : X.stack = X.env :: X.outer) (hf : X.env.frame = some X.env.locals) :
    Inv X pins σ H s ∧ ∃ oe, s.heap.get? a = some oe ∧ Zc cls d oe ∧ (∃ vs, oe.data = .fields vs) ∧ a ≠ X.env.locals ∧ a ∉ X.fs := by
  obtain ⟨B, sI, I, nb, up, fl, na, os, ag⟩ := h
  obtain ⟨oe, vs, he,
      hz, hd⟩ := fl.there
  have out : ∀ e ∈ X.env :: X.outer, e.frame ≠ some a := fun e he' q => by
    obtain ⟨_, o', e', hnf⟩ := fl.2.2.1.mem (List.mem_filterMap.mpr ⟨e, he', q⟩)
    rw [he] at e'
    cases e'
    exact hnf _ hd
  exact ⟨I.landed nb fl.1 up os ag, oe, he, hz, ⟨vs, hd⟩, fun z => out X.env List.mem_cons_self (by rw [hf, z]), fun hm => by
    obtain ⟨e, he', q⟩ := List.mem_filterMap.mp hm
    exact out e (List.mem_cons_of_mem _ he') q⟩
theorem cl_cons (hst : X.stack = X.env :: X.outer) (hf : X.env.frame = some X.env.locals) (hN : X.N.Nodup) (hi : X.N[i]? = some n) (hln : X.env.kindOf n = some .local) (hc : Names X x c)
    (hsu : ∀ (a : Addr) (oe : Obj) (cls : Value) (d : Option Addr) (pn : List (Addr × Obj)), Zc cls d oe → (∃ vs, oe.data = .fields vs) → PSs (X.suite a ((a, oe) :: pn)) (b₀ :: suite) (ts a cls d)) (hr : Cl X hs D W) :
    Cl X (.ExceptHandler (some (.Name x np)) (some n) (b₀ :: suite) pos' :: hs) D (wAs X.K c i ts W D) := fun pins σ H s a cls d hat ok hw => by
  obtain ⟨b, hb, hy, hn⟩ := hw
  obtain ⟨I, oe, he, hz, hv, nL, nF⟩ := hat.apart hst hf
  have na : H a = none := by
    obtain ⟨_, _, _, _, _, _, na, _⟩ := hat
    exact na
  obtain ⟨vs, hd⟩ := id hv
  have S := I.suite he hd na nL nF
  refine wpAny_handleBy_cons (codeAny_handlers_test ?_) (fun q => by cases q)
  have lt : PySem.W.Looks (model X.prog X.w) s.heap (typeOf (.ref a)) cls := fun A Q E t k q => wpAny_typeOf_ref (k _ _ he) (by rw [hz.1]; exact q)
  have lm := PySem.W.exm_one (M := model X.prog X.w) I.kIn lt hb
  have nm : ∀ {Q E : Value → Shared → Prop}, Q c s → wpAny (model X.prog X.w) (X.A.mark (some (.ref a))) (eval (.Name x np) X.env) Q E s := fun {Q E} q => by
    obtain ⟨g1, g2, g3 | ⟨g3, g4, g5⟩⟩ := hc
    · exact ld_glob (X := X.suite a ((a, oe) :: (X.pn ++ pins))) S g1 g3 q g2
    · exact ld_blt (X := X.suite a ((a, oe) :: (X.pn ++ pins))) S g1 g3 g4 q g5 g2
  refine nm (lm.here ?_)
  cases b with
  | false => exact hr pins σ H s a cls d hat ok (hn rfl)
  | true =>
    obtain ⟨B, sI, I0, nb, up, fl, _, os, ag⟩ := hat
    refine codeAny_handlers_suite_as (HandSPX.lands_againZ fl fun h4 fl4 up4 => ?_)
    have hat4 : AtCl X pins σ H { s with heap := h4 } a cls d := ⟨B, sI, I0, nb, up.trans up4, fl4, na, os, ag⟩
    obtain ⟨I4, oe4, he4, hz4, ⟨vs4, hd4⟩, nL4, nF4⟩ := hat4.apart hst hf
    refine store_ok (X := X.suite a ((a, oe4) :: (X.pn ++ pins))) (v := .ref a) (I4.suite he4 hd4 na nL4 nF4) hN hi (.inl hln) rfl (fun s5 S5 => ?_) (.inr hln)
    refine wpAny_mono ((hsu a oe4 cls d (X.pn ++ pins) hz4 ⟨vs4, hd4⟩).run [] s5 _ H _ S5 (hy rfl a na)) (fun f s6 q => ?_) fun _ _ z => z.elim
    have bye : ∀ {σ6 : L2.St} {H6 : Hp} {Q : Shared → Prop}, Inv (X.suite a ((a, oe4) :: (X.pn ++ pins))) [] σ6 H6 s6 → (∀ s7, Inv X pins (σ6.set i none) H6 s7 → Q s7) →
        wpAny (model X.prog X.w) X.A (do bindName X.env n .none; unbindBehindTheSuite X.env n pos') (fun _ s7 => Q s7) X.xe s6 := fun {σ6 H6 Q} S6 z => gone_ok (S6.unsuite ok) hN hi hln z
    cases f with
    | ret u =>
      obtain ⟨v, σ6, H6, S6, r6, q6⟩ := q
      exact bye S6 fun _ J => ⟨_, _, _, J, r6, q6⟩
    | next =>
      obtain ⟨σ6, H6, S6, q6⟩ := q
      exact bye S6 fun _ J => ⟨_, _, J, q6⟩
    | brk =>
      obtain ⟨σ6, H6, S6, q6⟩ := q
      exact bye S6 fun _ J => ⟨_, _, J, q6⟩
    | cont =>
      obtain ⟨σ6, H6, S6, q6⟩ := q
      exact bye S6 fun _ J => ⟨_, _, J, q6⟩
/-- try: body / except clauses: they serve all that the body lets out -/
theorem ps_try_cl {tb : WX → TS} {Wd : Ends → WX} {h₀ : ExceptHandler} (hst : X.stack = X.env :: X.outer) (hf : X.env.frame = some X.env.locals) (hcl : ∀ D, Cl X (h₀ :: hs) D (Wd D))
    (hb : ∀ (W : WX) (pn : List (Addr × Obj)) (xe : Value → Shared → Prop), Takes (X.tr pn xe) W → PassesOwn (model X.prog X.w) X.A X.env xe → PSs (X.tr pn xe) body (tb W)) :
    PS X (.Try body (h₀ :: hs) [] [] pos) (fun D σ H => tb (Wd D) D σ H) := ⟨fun pins s σ H D I h => by
  have ok := I.ok
  refine wpAny_Try_except (wpAny_mono ((hb (Wd D) (X.pn ++ pins) (fun e s1 => wpAny (model X.prog X.w) X.A (noteFrame e X.env) (fun _ s2 => wpAny (model X.prog X.w) X.A (setFlight e none) (fun _ s3 =>
    wpAny (model X.prog X.w) X.A (handleBy e X.env (h₀ :: hs)) (SP X pins D) X.xe s3) X.xe s2) X.xe s1) (fun u s' z => ?_) PassesOwn.looking).run [] s σ H D (I.toTry _) h) (fun f s1 q => ?_) fun _ _ z => z)
  · obtain ⟨a, B, sI, _, σ', H', cls, d, rfl, J, nb, up, sky, na, os, ag, w⟩ := z
    refine Sky.land Zc.steady (by rw [ok.frames, hst]) hf (by rw [← hst]; exact sky) fun h3 fl up3 => ?_
    exact hcl D pins σ' H' _ a cls d ⟨B, sI, J.ofTry ok, nb, up.trans up3, fl, na, os, ag⟩ ok w
  · cases f with
    | ret v =>
      obtain ⟨y, σ', H', J, r, z⟩ := q
      exact ⟨y, σ', H', J.ofTry ok, r, z⟩
    | next =>
      obtain ⟨σ', H', J, z⟩ := q
      exact wpAny_execs_nil ⟨σ', H', J.ofTry ok, z⟩
    | brk =>
      obtain ⟨σ', H', J, z⟩ := q
      exact ⟨σ', H', J.ofTry ok, z⟩
    | cont =>
      obtain ⟨σ', H', J, z⟩ := q
      exact ⟨σ', H', J.ofTry ok, z⟩⟩
end
section
variable {X : Cx} {Γ : Sg} {O : Ow} {De : DE}
/-- try: body / except x as n: .. / except y as m: .., where every exception bears fields -/
theorem ws_tryAs2 {x y n m : Str} {c e : Value} {i j : Nat} {body s1 s2 : List Stmt} {b1 b2 : Stmt} {np1 np2 pos1 pos2 pos : Pos} (kg : KG) (hs : X.stack = X.env :: X.outer) (hf : X.env.frame = some X.env.locals) (hN : X.N.Nodup)
    (hi : X.N[i]? = some n) (hln : X.env.kindOf n = some .local) (hj : X.N[j]? = some m) (hlm : X.env.kindOf m = some .local) (hc : Names X x c) (he : Names X y e)
    (hb : ∀ (L0 : Lg) (pn : List (Addr × Obj)) (xe : Value → Shared → Prop), PassesOwn (model X.prog X.w) X.A X.env xe → Tx (X.tr pn xe) L0 kg → WSsx (X.tr pn xe) L0 body Γ O De)
    (hh : ∀ C fds Γ' O', kg C fds Γ' O' →
      (PySem.W.exmOne X.K (.ref C) c = some true ∧ ∀ (a dd : Addr) (oe : Obj) (pn : List (Addr × Obj)), Zc (.ref C) (some dd) oe → (∃ vs, oe.data = .fields vs) → WSs (X.suite a ((a, oe) :: pn)) (b1 :: s1) (Γ'.set i (some (.exc a dd fds))) O' (De.gone i)) ∨
      (PySem.W.exmOne X.K (.ref C) c = some false ∧ PySem.W.exmOne X.K (.ref C) e = some true ∧ ∀ (a dd : Addr) (oe : Obj) (pn : List (Addr × Obj)), Zc (.ref C) (some dd) oe → (∃ vs, oe.data = .fields vs) → WSs (X.suite a ((a, oe) :: pn)) (b2 :: s2) (Γ'.set j (some (.exc a dd fds))) O' (De.gone j))) :
    WS X (.Try body [.ExceptHandler (some (.Name x np1)) (some n) (b1 :: s1) pos1, .ExceptHandler (some (.Name y np2)) (some m) (b2 :: s2) pos2] [] [] pos) Γ O De := fun σ L H hsl hr E q => by
  let tb : WX → TS := fun W D σ H => ∀ (pn : List (Addr × Obj)) (xe : Value → Shared → Prop), Takes (X.tr pn xe) W → PassesOwn (model X.prog X.w) X.A X.env xe → uSs (X.tr pn xe) body D σ H
  let t1 : Addr → Value → Option Addr → TS := fun a cls d D σ H => ∀ (oe : Obj) (pn : List (Addr × Obj)), Zc cls d oe → (∃ vs, oe.data = .fields vs) → uSs (X.suite a ((a, oe) :: pn)) (b1 :: s1) D σ H
  let t2 : Addr → Value → Option Addr → TS := fun a cls d D σ H => ∀ (oe : Obj) (pn : List (Addr × Obj)), Zc cls d oe → (∃ vs, oe.data = .fields vs) → uSs (X.suite a ((a, oe) :: pn)) (b2 :: s2) D σ H
  refine toS (ps_try_cl (tb := tb) (Wd := fun D => wAs X.K c i t1 (wAs X.K e j t2 (fun _ _ _ _ => False) D) D) hs hf
    (fun D => cl_cons hs hf hN hi hln hc (fun a oe cls d pn hz hv => ⟨fun pins s σ H D I h => h oe pn hz hv pins s I⟩)
      (cl_cons hs hf hN hj hlm he (fun a oe cls d pn hz hv => ⟨fun pins s σ H D I h => h oe pn hz hv pins s I⟩) cl_nil))
    (fun W pn xe tk po => ⟨fun pins s σ H D I h => h pn xe tk po pins s I⟩)) ?_
  intro pn xe tk po
  have tx : Tx (X.tr pn xe) L kg := ⟨⟨_, tk, fun C d fs fds Γ' O' σ' L' H' hk le hsl' hd e1 e2 r => by
    obtain ⟨M2, le2, hx, r2⟩ := R.addXd r hd
    rcases hh C fds Γ' O' hk with ⟨z1, z2⟩ | ⟨z1, z0, z2⟩
    · exact ⟨true, z1, fun _ a ha oe pn' hz hv => z2 a d oe pn' hz hv (σ'.set i (some (.ref a))) M2 H' ((hsl'.mono le2).set (.exc hx e1 (e2.mono le2)) i) r2 _ (fol_gone (q.le (le.trans le2)) i), fun z => by cases z⟩
    · exact ⟨false, z1, fun z => (by cases z), fun _ => ⟨true, z0, fun _ a ha oe pn' hz hv => z2 a d oe pn' hz hv (σ'.set j (some (.ref a))) M2 H' ((hsl'.mono le2).set (.exc hx e1 (e2.mono le2)) j) r2 _ (fol_gone (q.le (le.trans le2)) j), fun z => by cases z⟩⟩⟩⟩
  exact hb L pn xe po tx σ L H (.refl L) hsl hr E q
end
end DL
/-! DL, part 6: deals -/
namespace DL
open PySem PySem.Spec PyProof.Rows L2 ClX
section
variable {X : Cx} {Γ : Sg} {O : Ow} {k : KD}
/-- numbers turned round: a list that only the drawing changes -/
theorem we_revN {e : Expr} {kk p1 p2 p3 pos} (h : WE X e Γ O fun d O1 => ∃ xs : List Int, SqD O1 d (xs.map .int) ∧ (∀ x ∈ xs, 0 ≤ x) ∧ xs.length ≤ 100 ∧ k .nums O1) : WE X (.Subscript e (.Slice none none (some (.UnaryOp .USub (.Constant (.int 1) kk p1) p2)) p3) pos) Γ O k := fun σ L H hs hr Q q => by
  refine toE (pe_revL (pu e)) ?_
  refine h σ L H hs hr _ fun vx d O1 L1 H1 h1 e1 i1 r1 => ?_
  obtain ⟨xs, hd, h0, hz, hk⟩ := h1
  obtain ⟨a, vs, rfl, s, t⟩ := sqD_of r1 hd i1
  refine ⟨a, vs, rfl, s, fun p hp => ?_⟩
  have ev : vs = xs.map V.int := isL_int t
  have hb : BkOk .nums (some (.lst vs.reverse)) := ⟨xs.reverse, fun x hx => h0 x (List.mem_reverse.mp hx), by rw [List.length_reverse]; exact hz, by rw [ev, List.map_reverse]⟩
  exact q _ _ _ _ _ hk (e1.trans (Lg.le_bk (r1.free hp).2.2)) (.nums Lg.bk_same) (r1.newBk hp hb)
/-- a deal made -/
theorem we_dealL {es : List Expr} {pos : Pos} (h : WA X es Γ O fun ds O1 => ∃ v : Int, ds = [.nums, .int v] ∧ 0 ≤ v ∧ k .deal O1) : WE X (.List es pos) Γ O k := fun σ L H hs hr Q q => by
  refine toE (pe_lst (pau es)) ?_
  refine h σ L H hs hr _ fun vs ds O1 L1 H1 h1 e1 i1 r1 => ?_
  obtain ⟨v, rfl, h0, hk⟩ := h1
  obtain ⟨x, y, rfl, ix, iy⟩ := i1.two'
  obtain ⟨b, rfl, hb⟩ := ix.nums'
  obtain rfl := iy.int'
  refine ⟨by show 2 ≤ sizeLine; decide,
      fun p hp => ?_⟩
  have hn : L1.bx p = none := (r1.free hp).2.2
  have hk2 : BkOk (.pair b) (some (.lst [.ref b, .int v])) := ⟨v, h0, rfl⟩
  exact q _ _ _ _ _ hk (e1.trans (Lg.le_bk hn)) (.deal Lg.bk_same ((Lg.le_bk hn).bx _ _ hb)) (r1.newBk hp hk2)
end
/-- the drawing, told of the data -/
def sDraw : SpD := fun ds O k _ => ∃ m : Int, ds = [.deal, .int m] ∧ 0 < m ∧ m < 1073741824 ∧ ∀ r : Int, 0 ≤ r → r < m → k (.int r) O
theorem sDraw_i {O : Ow} {k : KD} {kx : KX} {m : Int} (h0 : 0 < m ∧ m < 1073741824) (h : ∀ r : Int, 0 ≤ r → r < m → k (.int r) O) : sDraw [.deal, .int m] O k kx := ⟨m, rfl, h0.1, h0.2, h⟩
/-- .. told of the deal when it lies open, as two owned lists -/
structure Open (O : Ow) (a b : Addr) : Prop where
  ne : a ≠ b
  ex : ∃ (v : Int) (xs : List Int), 0 ≤ v ∧ (∀ x ∈ xs, 0 ≤ x) ∧ xs.length ≤ 100 ∧ O a = some (.lst [.own b, .int v]) ∧ O b = some (.lst (xs.map .int))
section
variable {base : Heap} {mg : Str → Option Value} {K : PySem.W.Frag} {w : World} {P : Program}
theorem R.open {L : Lg} {O : Ow} {H : Hp} {a b : Addr} {v : Int} {xs : List Int} (ne : a ≠ b) (e1 : H a = some (.lst [.ref b, .int v])) (e2 : H b = some (.lst (xs.map .int))) :
    R K ⟨fun c => if c = a ∨ c = b then none else H c, fun _ => none⟩ (put (put (fun _ => none) b (.lst (xs.map .int))) a (.lst [.own b, .int v])) H := by
  refine ⟨fun c o h => ?_, fun _ _ h => (by cases h), fun c od h => ?_⟩
  · have h' : (if c = a ∨ c = b then none else H c) = some o := h
    split at h'
    · cases h'
    · exact h'
  · by_cases ca : c = a
    · subst ca
      rw [put_same] at h
      cases h
      exact ⟨if_pos (.inl rfl), _, e1, .cons (.own b) (.cons (.int v) .nil)⟩
    · rw [put_ne ca] at h
      by_cases cb : c = b
      · subst cb
        rw [put_same] at h
        cases h
        refine ⟨if_pos (.inr rfl), _, e2, ?_⟩
        have : ∀ l : List Int, IsL K ⟨fun c' => if c' = a ∨ c' = c then none else H c', fun _ => none⟩ (l.map .int) (l.map .int) := fun l => by
          induction l with
          | nil => exact .nil
          | cons i l ih => exact .cons (.int i) ih
        exact this xs
      · rw [put_ne cb] at h
        cases h
/-- behind the drawing all else is as it was -/
theorem R.shut {L L' : Lg} {O O' : Ow} {H H' : Hp} {a b : Addr} (r : R K L O H) (ha : L.bx a = some (.pair b)) (hb : L.bx b = some .nums) (le : Lg.le ⟨fun c => if c = a ∨ c = b then none else H c, fun _ => none⟩ L') (r' : R K L' O' H') (op : Open O' a b) : R K L O H' := by
  obtain ⟨ne, v, xs, h0, g0, gz, e1, e2⟩ := op
  obtain ⟨vs, f1, f2⟩ := own_lst r' e1
  obtain ⟨ws, f3, f4⟩ := own_lst r' e2
  have keep : ∀ c o, c ≠ a → c ≠ b → H c = some o → H' c = some o := fun c o na nb h => r'.hp c o (le.hp c o (by
    show (if c = a ∨ c = b then none else H c) = some o
    rw [if_neg (fun z => z.elim na nb)]
    exact h))
  obtain ⟨a1, a2, _⟩ := r.bx a _ ha
  obtain ⟨b1, b2, _⟩ := r.bx b _ hb
  obtain ⟨x, y, rfl, ix, iy⟩ := f2.two'
  obtain rfl := ix.own'
  obtain rfl := iy.int'
  obtain rfl := isL_int f4
  refine ⟨fun c o h => keep c o (fun q => by rw [q, a1] at h; cases h) (fun q => by rw [q, b1] at h; cases h) (r.hp c o h), fun c k h => ?_, fun c od h => ?_⟩
  · obtain ⟨c1, c2, c3⟩ := r.bx c k h
    refine ⟨c1, c2, ?_⟩
    by_cases ca : c = a
    · subst ca
      rw [ha] at h
      cases h
      exact ⟨v, h0, f1⟩
    · by_cases cb : c = b
      · subst cb
        rw [hb] at h
        cases h
        exact ⟨xs, g0, gz, f3⟩
      · obtain ⟨o, e⟩ := c3.some
        rw [keep c o ca cb e, ← e]
        exact c3
  · obtain ⟨c1, c2⟩ := r.ow c od h
    obtain ⟨o, e⟩ := c2.some
    exact ⟨c1, c2.mono (.refl L) ((keep c o (fun q => by rw [q, a2] at h; cases h) (fun q => by rw [q, b2] at h; cases h) e).trans e.symm)⟩
theorem Pm.draw {x : Str} {st : Stmt} {N ps : List Str} {j : Nat} (T : Df K mg x st ps) (Sc : FnScope N ps (defScope st)) (hps : ps.length = 2)
    (h : ∀ (f : Addr) (cdv : Value) (A : Around) (outer : List Env) (s : Shared) (H : Hp) (E : XK), A.guards = some [] → Room j (A.deeper (envOfC x (defScope st) s.heap.objs.size f cdv)) → ∀ (O : Ow) (a b : Addr) (m : Int), 0 < m → m < 1073741824 → Open O a b →
      WSs (Bo P w K mg base N x st f cdv A outer s H E) (defBody st) (gst N.length [.own a, .int m]) O { nx := fun _ _ => False, rt := fun d O' => ∃ r : Int, d = .int r ∧ 0 ≤ r ∧ r < m ∧ Open O' a b }) : Pm P w K mg base x (j + 1) sDraw := by
  obtain ⟨f, fd, hm, F, hb, kp⟩ := T.ex
  refine ⟨f, fd, ps, ?_, hm, kp, hb⟩
  refine FnG.body F Sc (fun vs H Q E ⟨ds, L, O, k, kx, hi, _, ⟨m, e, _⟩, _⟩ => hi.length.trans (by rw [e]; exact hps.symm)) fun cdv A outer s H vs Q E hg hr hsp => ?_
  obtain ⟨ds, L, O, k, kx, is, r, ⟨m, rfl, m0, m1, hk⟩, q, _⟩ := hsp
  obtain ⟨x1, y1, rfl, ix, iy⟩ := is.two'
  obtain ⟨a, b, rfl, ha, hb2⟩ := ix.deal'
  obtain rfl := iy.int'
  obtain ⟨_, _, v, h0, e1⟩ := r.bx a _ ha
  obtain ⟨_, _, xs, g0, gz, e2⟩ := r.bx b _ hb2
  have ne : a ≠ b := fun z => by rw [z, hb2] at ha; cases ha
  have op : Open (put (put (fun _ => none) b (.lst (xs.map .int))) a (.lst [.own b, .int v])) a b := ⟨ne, v, xs, h0, g0, gz, put_same, by rw [put_ne ne.symm]; exact put_same⟩
  have z := h f cdv A outer s H E hg hr _ a b m m0 m1 op (start N [.ref a, .int m]) _ H (sl_start (.cons (.own a) (.cons (.int m) .nil))) (R.open (L := L) (O := O) ne e1 e2) { nx := fun _ H' => Q .non H', rt := Q }
    ⟨fun Γ' O' σ' L' H' z => z.elim, fun u d O' L' H' ⟨i, e, i0, i1, op'⟩ le is' r' => (by
      subst e
      obtain rfl := is'.int'
      exact q _ _ _ _ _ (hk i i0 i1) (.refl L) (.int i) (R.shut r ha hb2 le r' op')), fun _ _ _ _ _ a => a.elim, fun _ _ _ _ _ a => a.elim⟩
  exact fun pins s' I => (PSs.nox (pssu (X := (cxOf CX0 P w K mg base N x (defScope st) f cdv A outer s H E).nox) (defBody st))).run pins s' _ _ _ I z
end
end DL
/-! DL, part 7: zip of a list and a tuple; own [], len, properties; or by truth; slices of tuples; calls on a frozen view -/
namespace DL
open L2 PySem
open PySem.Spec PyProof.Rows

/-! ### zip(list, tuple) -/
/-- what it goes over, as it stands at each turn -/
def ItzW (K : PySem.W.Frag) (a b : Addr) : It where
  go i H := ∃ (xs ys : List V) (x y : V), SqL K H a xs ∧ SqT K H b ys ∧ xs[i]? = some x ∧ ys[i]? = some y
  yld i H v H' := ∃ T x y, v = .ref T ∧ H T = none ∧ H' = upd H T (.tup [x, y]) ∧ (∀ xs, SqL K H a xs → xs[i]? = some x) ∧ ∀ ys, SqT K H b ys → ys[i]? = some y
  stop i H := ∃ xs ys : List V, SqL K H a xs ∧ SqT K H b ys ∧ i ≤ xs.length ∧ i ≤ ys.length ∧ (i = xs.length ∨ i = ys.length)
theorem turn_zipW {P : Program} {w : World} {K : PySem.W.Frag} {elts : List Expr} {kk : Nat} {tpos : Pos} {a b z TI TO i1 i2 : Addr} (D : ZipSep2 z TI TO i1 i2 [i1, a] [i2, b]) (ha : a ≠ i1) (hb : b ≠ i2) :
    Turn P w K (.Tuple elts kk tpos) (ItzW K a b) [z, TI, TO, i1, i2] z (fun i h => IsZip h z TI TO .none ∧ IsTupOf2 h TI (.ref i1) (.ref i2) ∧ (∃ x y, IsTupOf2 h TO x y) ∧ h.IsListIter i1 a i ∧ h.IsTupleIter i2 b i) where
  mem := .head _
  obj := fun i h ⟨q1, q2, ⟨x, y, q3⟩, ⟨o4, q4, _, d4⟩, ⟨o5, q5, _, d5⟩⟩ c hc => by
    rcases in5 hc with rfl | rfl | rfl | rfl | rfl
    · exact ⟨_, q1, fun v e => nomatch e⟩
    · exact ⟨_, q2, fun v e => nomatch e⟩
    · exact ⟨_, q3, fun v e => nomatch e⟩
    · exact ⟨o4, q4, fun v e => by rw [d4] at e; cases e⟩
    · exact ⟨o5, q5, fun v e => by rw [d5] at e; cases e⟩
  keep := fun i h h' ⟨q1, q2, ⟨x, y, q3⟩, q4, q5⟩ k => ⟨k _ (by simp) _ q1, k _ (by simp) _ q2, ⟨x, y, k _ (by simp) _ q3⟩, q4.at fun o e => k _ (by simp) o e, q5.at fun o e => k _ (by simp) o e⟩
  item := by
    intro X hP hw hK hc i pins s σ H E I hf ⟨q1, q2, ⟨x0, y0, q3⟩, q4, q5⟩ ⟨xs, ys, x, y, hx, hy, ex, ey⟩
    subst hP hw hK
    obtain ⟨us, rx, px, _⟩ := I.list hx
    obtain ⟨ws, ry, py, _⟩ := I.tuple hy
    obtain ⟨u, hu, ru⟩ := rx.get ex
    obtain ⟨v, hv, rv⟩ := ry.get ey
    have zl : z < s.heap.objs.size := Heap.lt_size q1
    have lu := (List.getElem?_eq_some_iff.mp hu).1
    have lv := (List.getElem?_eq_some_iff.mp hv).1
    have Du := Draws.list (prog := X.prog) (w := X.w) (A := X.A.in1) (I.ok.hd hc) i1 a ha us.toArray
    have Dv := Draws.tuple (prog := X.prog) (w := X.w) (A := X.A.in1) (I.ok.hd hc) i2 b hb ws.toArray
    refine wpAny_pyNext_zipD2_item D Du Dv q1 q2 q3 ⟨q4, px.isList⟩ ⟨q5, py⟩ (by simpa using lu) (by simpa using lv) fun x1 x2 h1 tk g1 g2 z1 t1 n1 n2 new1 _ k1 => ?_
    obtain rfl : u = x1 := Option.some.inj (hu.symm.trans (by simpa using g1))
    obtain rfl : v = x2 := Option.some.inj (hv.symm.trans (by simpa using g2))
    refine ⟨_, rfl, wpAny_letOwnedTupleGo_zip (s := { s with heap := h1, toks := tk }) z1 fun h2 z2 sb => ?_⟩
    have keep : ∀ c o, c ≠ z → c ≠ TI → c ≠ TO → c ≠ i1 → c ≠ i2 → s.heap.get? c = some o → h2.get? c = some o := fun c o c1 _ c3 c4 c5 e => (sb.2 c c1).trans (k1 c o c1 c3 c4 c5 e)
    have far : s.heap.objs.size ≠ z := Nat.ne_of_gt zl
    have made : h2.get? s.heap.objs.size = some { cls := .type "tuple", data := .seq #[u, v] } := (sb.2 _ far).trans new1
    have okT : ObjOk X.prog X.w (upd H s.heap.objs.size (.tup [x, y])) h2 s.heap.objs.size (.tup [x, y]) := ⟨by show 2 ≤ sizeLine; decide, [u, v], .cons ru (.cons rv .nil), ⟨_, made, rfl, _, rfl⟩⟩
    have I2 : Inv X pins σ (upd H s.heap.objs.size (.tup [x, y])) { s with heap := h2, toks := tk } :=
      I.turnedNew (ch := [z, TI, TO, i1, i2]) (fun c o hc e => keep c o (fun q => hc (by simp [q])) (fun q => hc (by simp [q])) (fun q => hc (by simp [q])) (fun q => hc (by simp [q])) (fun q => hc (by simp [q])) e) hf (Nat.le_refl _) okT
    refine ⟨.ref s.heap.objs.size, _, I2, rfl, ⟨_, x, y, rfl, I.hok.fresh (Nat.le_refl _), rfl, fun l hl => (by rw [I.list_inj hl hx]; exact ex), fun l hl => (by rw [I.tuple_inj hl hy]; exact ey)⟩, ⟨z2, ?_, ⟨u, v, ?_⟩, ?_, ?_⟩, fun c hcm => ?_⟩
    · exact (sb.2 _ D.TIz).trans (k1 _ _ D.TIz D.TITO D.TIi1 D.TIi2 q2)
    · exact (sb.2 _ D.TOz).trans t1
    · exact n1.1.at fun o e => (sb.2 _ (Ne.symm D.zi1)).trans e
    · exact n2.1.at fun o e => (sb.2 _ (Ne.symm D.zi2)).trans e
    · have old : c < s.heap.objs.size := by
        rcases in5 hcm with rfl | rfl | rfl | rfl | rfl
        · exact zl
        · exact Heap.lt_size q2
        · exact Heap.lt_size q3
        · obtain ⟨_, e, _⟩ := q4
          exact Heap.lt_size e
        · obtain ⟨_, e, _⟩ := q5
          exact Heap.lt_size e
      rw [upd_ne (Nat.ne_of_lt old)]
      exact (hf c hcm).1
  done := by
    intro X hP hw hK hc i pins s σ H E I hf ⟨q1, q2, ⟨x0, y0, q3⟩, q4, q5⟩ ⟨xs, ys, hx, hy, le1, le2, hend⟩
    subst hP hw hK
    obtain ⟨us, rx, px, _⟩ := I.list hx
    obtain ⟨ws, ry, py, _⟩ := I.tuple hy
    have l1 := rx.length
    have l2 := ry.length
    have Du := Draws.list (prog := X.prog) (w := X.w) (A := X.A.in1) (I.ok.hd hc) i1 a ha us.toArray
    have Dv := Draws.tuple (prog := X.prog) (w := X.w) (A := X.A.in1) (I.ok.hd hc) i2 b hb ws.toArray
    have n1 : i ≤ us.toArray.size := by rw [List.size_toArray]; omega
    have n2 : i ≤ ws.toArray.size := by rw [List.size_toArray]; omega
    have n3 : i = us.toArray.size ∨ i = ws.toArray.size := by rw [List.size_toArray, List.size_toArray]; omega
    exact wpAny_pyNext_zipD2_end D Du Dv q1 q2 q3 ⟨q4, px.isList⟩ ⟨q5, py⟩ n1 n2 n3 fun h1 tk k1 => ⟨rfl, I.turnedL (t' := tk) (ch := [z, TI, TO, i1, i2]) (fun c o hc e => k1 c o (fun q => hc (by simp [q])) (fun q => hc (by simp [q])) (fun q => hc (by simp [q])) (fun q => hc (by simp [q])) e) hf⟩
  self := fun A i s Q E st h
      => wpAny_pyIter_zip st.1 h
theorem pi_zipW {X : Cx} {e e2 : Expr} {ta : TA} {p pos tpos : Pos} {elts : List Expr} {kk : Nat} (hg : Gl X "zip") (hm : X.mg "zip" = none) (ha : PA X [e, e2] ta)
    (hs : starEach [e, e2] X.env = (false, eval e X.env) :: starEach [e2] X.env) (hpl : (backTo pos (starEach [e2] X.env)).any (·.1) = false) :
    PI X (.Tuple elts kk tpos) (.Call (.Name "zip" p) [e, e2] [] pos) (fun σ H R => ta σ H fun vs H1 => ∃ (a b : Addr) (xs ys : List V), vs = [.ref a, .ref b] ∧ SqL X.K H1 a xs ∧ SqT X.K H1 b ys ∧ R (ItzW X.K a b) H1) := by
  refine ⟨fun pins s
      σ H R I h => ?_⟩
  refine Call_ (ld_blt I hg hm PyProof.Rows.boot_zip (PyProof.Rows.callWith_type1 (thn (ha.run pos pins s σ H _ I h) fun us s1 hv => ?_) hs hpl))
  obtain ⟨vs, H1, I1, r1, a, b, xs, ys, rfl, hx, hy, q⟩ := hv
  cases r1 with
  | cons ra rest =>
    cases rest with
    | cons rb rest =>
      cases rest
      cases ra
      cases rb
      obtain ⟨us, rx, px, _⟩ := I1.list hx
      obtain ⟨ws, ry, py, _⟩ := I1.tuple hy
      obtain ⟨oa, ea, _⟩ := id px.isList
      obtain ⟨ob, eb, _⟩ := id py
      have la : @LT.lt Nat _ a s1.heap.objs.size := Heap.lt_size ea
      have lb : @LT.lt Nat _ b s1.heap.objs.size := Heap.lt_size eb
      have na : ∀ m : Nat, a ≠ s1.heap.objs.size + m := fun m => Nat.ne_of_lt (Nat.lt_of_lt_of_le la (Nat.le_add_right _ m))
      have nb : ∀ m : Nat, b ≠ s1.heap.objs.size + m := fun m => Nat.ne_of_lt (Nat.lt_of_lt_of_le lb (Nat.le_add_right _ m))
      refine zip_begins2 (begins_list a us.toArray) (begins_tuple b ws.toArray) px.isList py fun h' z1 z2 z3 z4 z5 zs hk => wpAny_pyIter_zip z1 ?_
      have I2 : Inv X pins σ H1 { s1 with heap := h' } := I1.kept (t'
          := s1.toks) hk
      have young : ∀ c ∈ [s1.heap.objs.size + 4, s1.heap.objs.size + 2, s1.heap.objs.size + 3, s1.heap.objs.size, s1.heap.objs.size + 1], FpOk X pins H1 c := fun c hc => by
        have le : s1.heap.objs.size ≤ c := by
          rcases in5 hc with rfl | rfl | rfl | rfl | rfl <;> omega
        exact I1.fpOk le (I1.hok.fresh le)
      have D : ZipSep2 (s1.heap.objs.size + 4) (s1.heap.objs.size + 2) (s1.heap.objs.size + 3) s1.heap.objs.size (s1.heap.objs.size + 1) [s1.heap.objs.size, a] [s1.heap.objs.size + 1, b] := by
        constructor <;> simp [Ne.symm (na 4), Ne.symm (na 3), Ne.symm (na 1), Ne.symm (nb 4), Ne.symm (nb 3), Ne.symm (nb 0)]
        all_goals first | exact Ne.symm (nb 0) | exact Ne.symm (na 1) | omega
      exact ⟨s1.heap.objs.size + 4, _, _, _, H1, rfl, I2, turn_zipW D (na 0) (nb 1), ⟨z1, z2, ⟨_, _, z3⟩, ⟨_, z4, rfl, rfl⟩, ⟨_, z5, rfl, rfl⟩⟩, young, q⟩
theorem walk_zipW {K : PySem.W.Frag} {a b : Addr} {xs ys : List V} {n : Nat} (hn : n = min xs.length ys.length) : Walk (ItzW K a b) n (fun H => SqL K H a xs ∧ SqT K H b ys) (YPair (fun i => xs[i]?) (fun i => ys[i]?)) := by
  subst hn
  refine ⟨fun i _ hi q => ?_, fun _ q => ⟨xs, ys, q.1, q.2, by omega, by omega, by omega⟩, fun i H v H' _ q ⟨T, x, z, g1, g2, g3, g4, g5⟩ => ⟨T, x, z, g1, g2, g3, g4 xs q.1, g5 ys q.2⟩⟩
  have c1 : i < xs.length := by omega
  have c2 : i < ys.length := by omega
  exact ⟨xs, ys, _, _, q.1, q.2, List.getElem?_eq_getElem c1, List.getElem?_eq_getElem c2⟩
section
variable {X : Cx} {Γ : Sg} {O : Ow} {tg : Expr} {κ : List D → Ow → Prop}
theorem it_zipW {e e2 : Expr} {p pos tpos : Pos} {elts : List Expr} {kk : Nat} (hg : Gl X "zip") (hm : X.mg "zip" = none) (hst : starEach [e, e2] X.env = (false, eval e X.env) :: starEach [e2] X.env) (hpl : (backTo pos (starEach [e2] X.env)).any (·.1) = false)
    (h : WA X [e, e2] Γ O fun xs O1 => ∃ ds es, xs = [.lst ds, .tup es] ∧ κ (zipD ds es) O1) : ItD X (.Tuple elts kk tpos) (.Call (.Name "zip" p) [e, e2] [] pos) Γ O κ := by
  refine ⟨_, pi_zipW hg hm (pau [e, e2]) hst hpl, fun σ L H hs hr RR q => ?_⟩
  refine h σ L H hs hr _ fun vs xs O1 L1 H1 h1 e1 i1 r1 => ?_
  obtain ⟨ds, es, rfl, h1⟩ := h1
  obtain ⟨v, u, rfl, i1, i2⟩ := i1.two'
  obtain ⟨a, us, rfl, s, t⟩ := i1.lst'
  obtain ⟨b, ws, rfl, s', t'⟩ := i2.tup'
  refine ⟨a, b, us, ws, rfl, .inl (.inl (r1.hp _ _ s)), r1.st s', ?_⟩
  refine q _ _ (fun H => SqL X.K H a us ∧ SqT X.K H b ws) _ O1 L1 H1 h1 e1 (walk_zipW (by rw [zipD_len, t.length, t'.length])) (fun L2 O2 H2 le r => ⟨.inl (.inl (r.hp _ _ (le.hp _ _ s))), r.st (le_st le s')⟩) (fun i x L2 O2 H2 H3 hi le r y => ?_) r1
  rw [zipD_len] at hi
  have h1 : i < ds.length := by omega
  have h2 : i < es.length := by omega
  obtain ⟨L3, le3, r3, is⟩ := pair_new (d := ds[i]) (e := es[i]) r y (isL_nth t le h1) (isL_nth t' le h2)
  exact ⟨L3, _, le3, r3, zipD_at (List.getElem?_eq_getElem h1) (List.getElem?_eq_getElem h2), is⟩
end
/-! ### slices of tuples, pop, or by truth -/
section
variable {X : Cx} {Γ : Sg} {O : Ow} {k : KD} {De : DE}
theorem cutD_whole {ds : List D} {lo hi : Option Int} (hw : HT.sIx ds.length 0 lo = 0 ∧ HT.sIx ds.length ds.length hi = ds.length) : cutD ds lo hi = ds := by
  unfold cutD
  rw [hw.1, hw.2, List.drop_zero, Nat.sub_zero, List.take_length]
theorem wsl_tup {ds : List D} {lo hi : Option Int} (h : k (.tup (cutD ds lo hi)) O) : WSl X (.tup ds) lo hi O k := fun vx L H ix hr Q q => by
  obtain ⟨a, vs, rfl, s, t⟩ := id ix.tup'
  refine toSl sl_tupA ⟨a, vs, rfl, hr.st s, fun hw => ?_, fun _ p hp => ?_⟩
  · rw [t.length] at hw
    rw [cutD_whole hw] at h
    exact q _ _ _ _ _ h (.refl L) ix hr
  · obtain ⟨L', le, i, r⟩ := hr.newT hp (cut_is t lo hi)
    exact q _ _ _ _ _ h le i r
theorem wm_popL {p : Addr} {ds : List D} {d : D} (ho : O p = some (.lst ds)) (hd : ds[ds.length - 1]? = some d) (h : k d (put O p (.lst ds.dropLast))) : WM X "list.pop" (.own p) [] O k := fun vx vs L H ix is hr Q q => by
  cases is
  obtain ⟨xs, g1, g2⟩ := own_lst hr ho
  obtain rfl := ix.own'
  obtain ⟨v', e1, e2⟩ := g2.get hd
  refine toM mt_pop ⟨p, xs, v', rfl, rfl, g1, by rw [g2.length]; exact e1, ?_⟩
  have dl : IsL X.K L xs.dropLast ds.dropLast := by
    rw [List.dropLast_eq_take, List.dropLast_eq_take, g2.length]
    exact g2.take _
  exact q _ _ _ _ _ h (.refl L) e2 (hr.change ho ⟨_, upd_same, dl⟩)
/-- xs or b, xs a list -/
theorem we_orL {a b : Expr} {rest : List Expr} {pos : Pos} (h : WE X a Γ O fun x O1 => ∃ ds, SqD O1 x ds ∧ if ds.isEmpty = true then WE X (.BoolOp .Or (b :: rest) pos) Γ O1 k else k x O1) : WE X (.BoolOp .Or (a :: b :: rest) pos) Γ O k := fun σ L H hs hr Q q => by
  refine toE (pe_orT (pu a) (pu _)) ?_
  refine h σ L H hs hr _ fun v x O1 L1 H1 h1 e1 i1 r1 => ?_
  obtain ⟨ds, hd, h1⟩ := h1
  obtain ⟨p, vs, rfl, s, t⟩ := id (sqD_of r1 hd i1)
  have em : vs.isEmpty = ds.isEmpty := by
    cases t <;> rfl
  refine ⟨!vs.isEmpty, .inl ⟨vs, s, rfl⟩, ?_⟩
  rw [em]
  cases he : ds.isEmpty with
  | true =>
    rw [he] at h1
    have h1' : WE X (.BoolOp .Or (b :: rest) pos) Γ O1 k := h1
    exact iteF (h1' σ L1 H1 (hs.mono e1) r1 Q (q.le e1))
  | false =>
    rw [he] at h1
    have h1' : k x O1 := h1
    exact iteT (q _ _ _ _ _ h1' e1 i1 r1)
end
/-! ### own [], own len -/
section
variable {X : Cx} {Γ : Sg} {O : Ow} {k : KD} {C : Addr} {j : Nat} {S : SpD}
def Gi (K : PySem.W.Frag) (C : Addr) : Prop := ∀ f, PySem.W.findIn K (.ref C) "__getitem__" = some (some (.ref f)) → PySem.W.fnIn K f = true
theorem Gi.of {K : PySem.W.Frag} {qual : Str} {st : Stmt} {ps : List Str} (T : Dm K C "__getitem__" qual st ps) : Gi K C := fun f hf => by
  obtain ⟨g, fd, hm, F, _⟩ := T.ex
  have e : some (some (Value.ref g)) = some (some (Value.ref f)) := hm.at_.symm.trans hf
  cases e
  obtain ⟨_, _, _, _, _, _, _, cdv, _, _, ef, lk, hcd⟩ := F.ex
  unfold PySem.W.fnIn
  rw [lk]
theorem we_ixOwn {a b : Expr} {pos : Pos} (F : Km X C "__getitem__" j S) (gi : Gi X.K C) (hgd : X.A.guards = some []) (hr : Room (j + 1) X.A) (hsl : ∀ x i, subscripted b true (.ref x) i = runValue (.builtin "lifetime.subscript" ⟨[.ref x, i], []⟩))
    (h : WE X a Γ O fun x O1 => WE X b Γ O1 fun y O2 => ∃ fds, InD O2 x C fds ∧ S [x, y] O2 k fun _ _ _ => False) : WE X (.Subscript a b pos) Γ O k := fun σ L H hs hR Q q pins s I => by
  obtain ⟨f, fd, ps, G, M, bd⟩ := F.ex
  refine Subscript_ (binT (pu a) (pu b) I (R := fun vx vy H2 => ∃ (L2 : Lg) (x y : D) (O2 : Ow), L.le L2 ∧ Is X.K L2 vx x ∧ Is X.K L2 vy y ∧ R X.K L2 O2 H2 ∧ ∃ fds, InD O2 x C fds ∧ S [x, y] O2 k fun _ _ _ => False)
    (h σ L H hs hR _ fun vx x O1 L1 H1 h1 e1 i1 r1 => h1 σ L1 H1 (hs.mono e1) r1 _ fun vy y O2 L2 H2 h2 e2 i2 r2 => ⟨L2, x, y, O2, e1.trans e2, i1.mono e2, i2, r2, h2⟩) fun v u s2 vx vy H2 I2 rx ry hv => ?_)
  obtain ⟨L2, x, y, O2, le, i1, i2, r2, fds, hx, hS⟩ := hv
  obtain ⟨p1, dx, fs, rfl, ha, _, _⟩ := inD_of r2 hx i1
  cases rx
  obtain ⟨mA, J, _⟩ := ins_get I2.hok ha
  obtain ⟨od, J, _⟩ := J.look
  obtain ⟨m, hF⟩ := I2.fr
  refine PySem.W.sub_K hF I2.ok.mod.kin J M.at_ (gi f M.at_) M.fn ?_ (hsl _ _)
  exact run_gA (A := X.A.in1) (us := [.ref p1, u]) (vs := [.ref p1, vy]) G hgd hr.in1 I2.env0.in1 bd I2 (.cons rfl (.cons ry .nil)) (sp_of hS (.cons i1 (.cons i2 .nil)) r2 (q.le le))
theorem wc_lenOwn {x : D} {fds : List (Str × D)} (F : Km X C "__len__" j S) (hgd : X.A.guards = some []) (hr : Room (j + 1) X.A) (hx : InD O x C fds) (h : S [x] O (fun d O' => ∃ n : Int, d = .int n ∧ (0 ≤ n ∧ n < 2 ^ 63) ∧ k (.int n) O') fun _ _ _ => False) : DL.WC X (.builtin "len") [x] O k := fun vs L H is hR Q q => by
  obtain ⟨vx, rfl, ix⟩ := is.one'
  obtain ⟨a, dx, fs, rfl, ha, _, _⟩ := inD_of hR hx ix
  obtain ⟨f, fd, ps, G, M, bd⟩ := F.ex
  intro pins s σ us I rx
  obtain ⟨u, rfl, r1⟩ := Vals.one rx
  cases r1
  obtain ⟨mA, J,
      _⟩ := ins_get I.hok ha
  obtain ⟨od, J, _⟩ := J.look
  obtain ⟨m, hF⟩ := I.fr
  refine PySem.W.len_K hF I.ok.mod.kin J M.at_ M.fn ?_
  refine wpAny_mono (run_gA (A := X.A.in1) (us := [.ref a]) (vs := [.ref a]) (Q := fun w H' => ∃ n : Int, w = .int n ∧ (0 ≤ n ∧ n < 2 ^ 63) ∧ Q (.int n) H') G hgd hr.in1 I.env0.in1 bd I (.cons rfl .nil) (sp_of h (.cons ix .nil) hR (fun v d O' L' H' ⟨n, hd, hn, hk⟩ le i r' => by
    subst hd
    exact ⟨n, i.int', hn, q _ _ _ _ _ hk le (.int _) r'⟩))) (fun w s' z => ?_) fun _ _ e => e
  obtain ⟨z', H', I', rz, n, ez, hn, qz⟩ := z
  subst ez
  obtain ⟨t, rfl⟩ := rz
  exact ⟨hn, .int n, H', I'.tok _, ⟨_, rfl⟩, qz⟩
/-! ### a property that gives a field -/
structure Kp (X : Cx) (C : Addr) (f fld : Str) : Prop where
  ex : ∃ (p g : Addr) (fd : FuncData) (ps : List Str), PropOf X.K C f p g ∧ FnOk X.prog X.w X.K X.mg X.base CX0 1 g fd ps (getSp C fld) ∧ Binds X.K fd ps []
  cl : Cls X.K C
theorem we_prop {e : Expr} {f fld : Str} {pos : Pos} (F : Kp X C f fld) (hr : Room 2 X.A) (hb : attributeBase e f X.env (eval e X.env) = eval e X.env) (h : WE X e Γ O fun x O1 => ∃ fds d, InD O1 x C fds ∧ fds.lookup fld = some d ∧ k d O1) : WE X (.Attribute e f pos) Γ O k := fun σ L H hs hR Q q => by
  obtain ⟨p, g, fd, ps, hp, G, bd⟩ := F.ex
  refine toE (pe_prop (E := E0) (dvs := []) (ds := []) (pu e) F.cl hp G hr bd .nil (fun _ _ _ _ _ _ _ z => z.elim) hb) ?_
  refine h σ L H hs hR _ fun vx x O1 L1 H1 h1 e1 i1 r1 => ?_
  obtain ⟨fds, d, hx, hl, hk⟩ := h1
  obtain ⟨a, dx, fs, rfl, s1, s2, s3⟩ := inD_of r1 hx i1
  obtain ⟨v, g1, g2⟩ := (lookup_is s2 s3).1 d hl
  exact ⟨a, dx, fs, rfl, s1, a, dx, fs, v, rfl, s1, g1, q _ _ _ _ _ hk e1 g2 r1⟩
end
/-! ### a call on a frozen view: what is owned is read only -/
def Lg.all (L : Lg) (H : Hp) : Lg := ⟨fun c => if (L.bx c).isSome = true then none else H c, L.bx⟩
inductive Frz (O : Ow) : D → D → Prop
  | same (d : D) : Frz O d d
  | own {p : Addr} {ds : List D} : O p = some (.lst ds) → Frz O (.own p) (.lst ds)
  | lst1 {p : Addr} {ds : List D} : O p = some (.lst ds) → Frz O (.lst [.own p]) (.lst [.lst ds])
inductive FrzL (O : Ow) : List D → List D → Prop
  | nil : FrzL O [] []
  | cons {d e : D} {ds es : List D} : Frz O d e → FrzL O ds es → FrzL O (d :: ds) (e :: es)
section
variable {K : PySem.W.Frag} {L L' : Lg} {O O' : Ow} {H H' : Hp}
theorem R.le_all (r : R K L O H) : L.le (L.all H) := by
  refine ⟨fun c o h => ?_, fun _ _ h => h⟩
  show (if (L.bx c).isSome = true then none else H c) = some o
  cases e : L.bx c with
  | none => exact r.hp c o h
  | some k =>
    obtain ⟨z, _⟩ := r.bx c k e
    rw [z] at h
    cases h
theorem R.all (r : R K L O H) : R K (L.all H) (fun _ => none) H := by
  refine ⟨fun c o h => ?_, fun c k h => ?_, fun _ _ h => by cases h⟩
  · have h' : (if (L.bx c).isSome = true then none else H c) = some o := h
    split at h'
    · cases h'
    · exact h'
  · have h' : L.bx c = some k := h
    obtain ⟨_, _, z⟩ := r.bx c k h'
    refine ⟨?_, rfl, z⟩
    show (if (L.bx c).isSome = true then none else H c) = none
    rw [h']
    rfl
theorem R.all_own (r : R K L O H) {p : Addr} {ds : List D} (ho : O p = some (.lst ds)) : Is K (L.all H) (.ref p) (.lst ds) := by
  obtain ⟨vs, e, i⟩ := own_lst r ho
  refine .lst (vs := vs) ?_ (i.mono r.le_all)
  show (if (L.bx p).isSome = true then none else H p) = _
  cases q : L.bx p with
  | none => exact e
  | some k => obtain ⟨_, z, _⟩ := r.bx p k q; rw [z] at ho; cases ho
theorem Frz.is (r : R K L O H) {v : V} {d e : D} (f : Frz O d e) (i : Is K L v d) : Is K (L.all H) v e := by
  cases f with
  | same => exact i.mono r.le_all
  | own ho =>
    obtain rfl := i.own'
    exact r.all_own ho
  | lst1 ho =>
    obtain ⟨a, vs, rfl, s, t⟩ := i.lst'
    obtain ⟨u, rfl, i1⟩ := t.one'
    obtain rfl := i1.own'
    exact .lst (r.le_all.hp _ _ s) (.cons (r.all_own ho) .nil)
theorem FrzL.is (r : R K L O H) : ∀ {vs : List V} {ds es : List D}, FrzL O ds es → IsL K L vs ds → IsL K (L.all H) vs es
  | _, _, _, .nil, .nil => .nil
  | _, _, _, .cons f fs, .cons i is => .cons (f.is r i) (FrzL.is r fs is)
theorem R.back (r : R K L O H) (le : (L.all H).le L') (r' : R K L' O' H') : R K L O H' := by
  have keep : ∀ c o, L.bx c = none → H c = some o → H' c = some o := fun c o n h => r'.hp c o (le.hp c o (by
    show (if (L.bx c).isSome = true then none else H c) = some o
    rw [n]
    exact h))
  have nb : ∀ c o, L.hp c = some o → L.bx c = none := fun c o h => by
    cases q : L.bx c with
    | none => rfl
    | some k => obtain ⟨z, _⟩ := r.bx c k q; rw [z] at h; cases h
  refine ⟨fun c o h => keep c o (nb c o h) (r.hp c o h), fun c k h => ?_, fun c od h => ?_⟩
  · obtain ⟨a, b, _⟩ := r.bx c k h
    obtain ⟨_, _, z⟩ := r'.bx c k (le.bx c k h)
    exact ⟨a, b, z⟩
  · obtain ⟨a, b⟩ := r.ow c od h
    obtain ⟨o, e⟩ := b.some
    have n : L.bx c = none := by
      cases q : L.bx c with
      | none => rfl
      | some k => obtain ⟨_, z, _⟩ := r.bx c k q; rw [z] at h; cases h
    exact ⟨a, b.mono (.refl L) ((keep c o n e).trans e.symm)⟩
theorem is_flat {L' : Lg} {v : V} {d : D} (hf : d.flat = true) (h : Is K L v d) : Is K L' v d := by
  cases h with
  | own | box | lst | scr | tup | dic | ins | ty | byt | exc | any | deal | nums => cases hf
  | non => exact .non
  | bl b => exact .bl b
  | int b => exact .int b
  | str b => exact .str b
end
section
variable {X : Cx} {Γ : Sg} {O : Ow} {k : KD} {j : Nat} {S : SpD}
theorem we_callF {x : Str} {e : Expr} {es : List Expr} {p pos : Pos} (F : Kn X x j S) (hgd : X.A.guards = some []) (hr : Room j X.A) (he : starEach (e :: es) X.env = (false, eval e X.env) :: starEach es X.env) (hpl : (backTo pos (starEach es X.env)).any (·.1) = false)
    (h : WA X (e :: es) Γ O fun ds O1 => ∃ ds', FrzL O1 ds ds' ∧ S ds' (fun _ => none) (fun d _ => d.flat = true ∧ k d O1) fun _ _ _ => False) : WE X (.Call (.Name x p) (e :: es) [] pos) Γ O k := fun σ L H hs hR Q q pins s I => by
  obtain ⟨f, fd, ps, G, hm, hk, hb⟩ := F.ex
  refine wpAny_Call_Name_kw (ld_glob I F.gl hm ?_ F.db)
  refine PySem.W.callWith_K (h₀ := X.base) I.ok.mod.kin hk (thn (h σ L H hs hR (fun vs H1 => ∃ ds O1 L1, (∃ ds', FrzL O1 ds ds' ∧ S ds' (fun _ => none) (fun d _ => d.flat = true ∧ k d O1) fun _ _ _ => False) ∧ L.le L1 ∧ IsL X.K L1 vs ds ∧ R X.K L1 O1 H1) (fun vs ds O1 L1 H1 a b c d => ⟨ds, O1, L1, a, b, c, d⟩) pos pins s I) fun us s1 ⟨vs, H1, I1, rv, ds, O1, L1, ⟨ds', fz, h1⟩, le1, is1, r1⟩ => ⟨I1.kIn, ?_⟩) he hpl
  have hsp : spOf X.K S vs H1 Q (fun _ _ _ => False) := ⟨ds', L1.all H1, fun _ => none, _, fun _ _ _ => False, fz.is r1 is1, r1.all, h1, fun v d O' L' H' ⟨fl, hk⟩ le i r => q v d O1 L1 H' hk le1 (is_flat fl i) (r1.back le r), fun _ _ _ _ _ _ _ z => z.elim⟩
  have hl : (us ++ []).length = ps.length := by rw [List.append_nil, ← rv.length]; exact G.ln _ _ _ _ hsp
  refine wpAny_call (codeAny_mono (G.go X.A X.stack s1 H1 ⟨us, []⟩ (us ++ []) vs Q (fun _ _ _ => False) hgd hr I1.env0 (hb s1 us I1.kIn hl) (by rw [List.append_nil]; exact rv) hsp) fun r s' hq => ?_)
  match r, hq with
  | .ok (.ret u), hq => exact I1.after hq
  | .ok .next, hq => exact hq.elim
  | .ok .brk, hq => exact hq.elim
  | .ok .cont, hq => exact hq.elim
  | .error e, hq => exact hq.elim
end
/-! ### a def under another name -/
structure DfA (K : PySem.W.Frag) (mg : Str → Option Value) (x y : Str) (st : Stmt) (ps : List Str) : Prop where
  ex : ∃ (f : Addr) (fd : FuncData), mg x = some (.ref f) ∧ FunX K y y st f fd ∧ Binds K fd ps [] ∧ PySem.W.keepIn K (.ref f) = true
section
variable {base : Heap} {mg : Str → Option Value} {K : PySem.W.Frag} {w : World} {P : Program}
theorem Pm.ofA {x y : Str} {st : Stmt} {N ps : List Str} {j : Nat} {S : SpD} (T : DfA K mg x y st ps) (Sc : FnScope N ps (defScope st)) (len : ∀ ds O k kx, S ds O k kx → ds.length = ps.length)
    (h : ∀ (f : Addr) (cdv : Value) (A : Around) (outer : List Env) (s : Shared) (H : Hp) (E : XK), A.guards = some [] → Room j (A.deeper (envOfC y (defScope st) s.heap.objs.size f cdv)) → ∀ ds O k kx, S ds O k kx →
      WSs (Bo P w K mg base N y st f cdv A outer s H E) (defBody st) (gst N.length ds) O { nx := fun _ O' => Ret k .non O', rt := Ret k }) : Pm P w K mg base x (j + 1) S := by
  obtain ⟨f, fd, hm, F, hb, kp⟩ := T.ex
  exact ⟨f, fd, ps, fn_body F Sc len (h f), hm, kp, hb⟩
end
/-- .. where it stands -/
inductive DnA (K : PySem.W.Frag) (x y : Str) (st : Stmt) : Prop where
  | mk {f : Addr} {oc : Value} {od an : Option Addr} {osl : Array (Option Value)} {kV doc pm cdv ct : Value} (a : PySem.W.nsIn K mainGlobals x = some (some (.ref f)))
    (l : K.lookup f = some ⟨oc, od, .func (PySem.W.fnOf y y (defArgs st) (defBody st) (defScope st) .none kV doc pm an cdv ct), osl⟩) (c : PySem.W.codeIn K cdv y = true) (kp : PySem.W.keepIn K (.ref f) = true)
theorem DnA.df {K : PySem.W.Frag} {mg : Str → Option Value} {h : Heap} {x y : Str} {st : Stmt} {ps : List Str} (D : DnA K x y st) (X : K.In h) (G : h.Ns mainGlobals mg) (b : ∀ (kV doc pm : Value) (an : Option Addr) (cdv ct : Value) (us : List Value), us.length = ps.length → bindArgs (PySem.W.fnOf y y (defArgs st) (defBody st) (defScope st) .none kV doc pm an cdv ct) ⟨us, []⟩ = pure (ps.zip us)) : DfA K mg x y st ps := by
  obtain ⟨a, l, c, kp⟩ := D
  exact ⟨_, _, PySem.W.mg_of X G a, funx_mk l c, .all (b _ _ _ _ _ _), kp⟩
end DL
/-! DL, part 8: nested owned data seen frozen, comprehensions that make owned things, lists repeated -/
namespace DL
open L2 PySem
open PySem.Spec PyProof.Rows
mutual
inductive FzD (O : Ow) : D → D → Prop
  | same (d : D) : FzD O d d
  | own {p : Addr} {ds es : List D} : O p = some (.lst ds) → FzLs O ds es → FzD O (.own p) (.lst es)
inductive FzLs (O : Ow) : List D → List D → Prop
  | nil : FzLs O [] []
  | cons {d e : D} {ds es : List D} : FzD O d e → FzLs O ds es → FzLs O (d :: ds) (e :: es)
end
section
variable {K : PySem.W.Frag} {L L' : Lg} {O O' : Ow} {H H' : Hp}
theorem R.all_at (r : R K L O H) {p : Addr} {vs : List V} {ds : List D} (ho : O p = some (.lst ds)) (e : H p = some (.lst vs)) : (L.all H).hp p = some (.lst vs) := by
  show (if (L.bx p).isSome = true then none else H p) = _
  cases q : L.bx p with
  | none => exact e
  | some k => obtain ⟨_, z, _⟩ := r.bx p k q; rw [z] at ho; cases ho
mutual
theorem FzD.is (r : R K L O H) : ∀ {v : V} {d e : D}, FzD O d e → Is K L v d → Is K (L.all H) v e
  | _, _, _, .same _, i => i.mono r.le_all
  | v, _, _, .own (p := p) (ds := ds) (es := es) ho f, i => by
    obtain rfl := i.own'
    obtain ⟨vs, e1, i1⟩ := own_lst r ho
    exact .lst (r.all_at ho e1) (FzLs.is r f i1)
theorem FzLs.is (r : R K L O H) : ∀ {vs : List V} {ds es : List D}, FzLs O ds es → IsL K L vs ds → IsL K (L.all H) vs es
  | _, _, _, .nil, .nil => .nil
  | _, _, _, .cons f fs, .cons i is => .cons (FzD.is r f i) (FzLs.is r fs is)
end
end
section
variable {X : Cx} {Γ : Sg} {O : Ow} {k : KD} {j : Nat} {S : SpD}
theorem we_callZ {x : Str} {e : Expr} {es : List Expr} {p pos : Pos} (F : Kn X x j S) (hgd : X.A.guards = some []) (hr : Room j X.A) (he : starEach (e :: es) X.env = (false, eval e X.env) :: starEach es X.env) (hpl : (backTo pos (starEach es X.env)).any (·.1) = false)
    (h : WA X (e :: es) Γ O fun ds O1 => ∃ ds', FzLs O1 ds ds' ∧ S ds' (fun _ => none) (fun d _ => d.flat = true ∧ k d O1) fun _ _ _ => False) : WE X (.Call (.Name x p) (e :: es) [] pos) Γ O k := fun σ L H hs hR Q q pins s I => by
  obtain ⟨f, fd, ps, G, hm, hk, hb⟩ := F.ex
  refine wpAny_Call_Name_kw (ld_glob I F.gl hm ?_ F.db)
  refine PySem.W.callWith_K (h₀ := X.base) I.ok.mod.kin hk (thn (h σ L H hs hR (fun vs H1 => ∃ ds O1 L1, (∃ ds', FzLs O1 ds ds' ∧ S ds' (fun _ => none) (fun d _ => d.flat = true ∧ k d O1) fun _ _ _ => False) ∧ L.le L1 ∧ IsL X.K L1 vs ds ∧ R X.K L1 O1 H1) (fun vs ds O1 L1 H1 a b c d => ⟨ds, O1, L1, a, b, c, d⟩) pos pins s I) fun us s1 ⟨vs, H1, I1, rv, ds, O1, L1, ⟨ds', fz, h1⟩, le1, is1, r1⟩ => ⟨I1.kIn, ?_⟩) he hpl
  have hsp : spOf X.K S vs H1 Q (fun _ _ _ => False) := ⟨ds', L1.all H1, fun _ => none, _, fun _ _ _ => False, FzLs.is r1 fz is1, r1.all, h1, fun v d O' L' H' ⟨fl, hk⟩ le i r => q v d O1 L1 H' hk le1 (is_flat fl i) (r1.back le r), fun _ _ _ _ _ _ _ z => z.elim⟩
  have hl : (us ++ []).length = ps.length := by rw [List.append_nil, ← rv.length]; exact G.ln _ _ _ _ hsp
  refine wpAny_call (codeAny_mono (G.go X.A X.stack s1 H1 ⟨us, []⟩ (us ++ []) vs Q (fun _ _ _ => False) hgd hr I1.env0 (hb s1 us I1.kIn hl) (by rw [List.append_nil]; exact rv) hsp) fun r s' hq => ?_)
  match r, hq with
  | .ok (.ret u), hq => exact I1.after hq
  | .ok .next, hq => exact hq.elim
  | .ok .brk, hq => exact hq.elim
  | .ok .cont, hq => exact hq.elim
  | .error e, hq => exact hq.elim
theorem wo_fz {f : Value → Value → Sem Value} {x y x' y' : D} (hx : FzD O x x') (hy : FzD O y y') (h : WO X f x' y' (fun _ => none) fun d _ => d.flat = true ∧ k d O) : WO X f x y O k := fun vx vy L H ix iy hR Q q =>
  h vx vy (L.all H) H (hx.is hR ix) (hy.is hR iy) hR.all Q fun v d O' L' H' ⟨fl, hk⟩ le i r => q v d O L H' hk (.refl L) (is_flat fl i) (R.back hR le r)
theorem wo_rep {ds : List D} {n : Int} (h0 : -(2 ^ 63) ≤ n) (h1 : n < 2 ^ 63) (hz : ds.length * n.toNat ≤ sizeLine) (h : k (.lst (List.replicate n.toNat ds).flatten) O) : WO X (binaryOp .Mult) (.lst ds) (.int n) O k := fun vx vy L H ix iy hr Q q => by
  obtain ⟨a, vs, rfl, s, t⟩ := ix.lst'
  refine toO op_rep ⟨a, n, vs, rfl, iy.int', hr.hp _ _ s, h0, h1, by rw [t.length]; exact hz, fun p hp => ?_⟩
  have fl : ∀ m : Nat, IsL X.K L (List.replicate m vs).flatten (List.replicate m ds).flatten := fun m => by
    induction m with
    | zero => exact .nil
    | succ m ih =>
      rw [List.replicate_succ, List.replicate_succ,
          List.flatten_cons, List.flatten_cons]
      exact t.append ih
  obtain ⟨L', le, i, r⟩ := hr.newL hp (fl _)
  exact q _ _ _ _ _ h le i r
end
/-! ### comprehensions whose elements are owned things of their own -/
section
variable {X : Cx} {tg : Expr} {Γ : Sg} {O : Ow} {κ : List D → Ow → Prop}
def LcG (X : Cx) (elt : Expr) (scope : Scope) (vs : List Nat) (t : Tg) (Γ : Sg) (ds : List D) (O1 : Ow) (fin : List D → Ow → Prop) : Prop := ∃ P : Nat → List D → Ow → Prop, P 0 [] O1 ∧
  (∀ i d acc O', ds[i]? = some d → P i acc O' → ∀ O2 Dl, Agr O' O2 → O' Dl = none → O2 Dl = some (.lst acc) → ∃ Γ2, tgD t d (wipeD Γ vs) = some Γ2 ∧ BE X scope elt Γ2 O2 fun y O4 => acc.length < sizeLine ∧ O4 Dl = some (.lst acc) ∧ ∃ O5 : Ow, O5 Dl = none ∧ (∀ a od, O5 a = some od → O4 a = some od) ∧ P (i + 1) (acc ++ [y]) O5) ∧
  ∀ acc O', P ds.length acc O' → fin acc O'
theorem lc_runG {elt : Expr} {scope : Scope} {vs : List Nat} {t : Tg} {wi : TI} {tt : TT} (hi : ∀ i ∈ tgIx t, i ∈ vs)
    (hit : ∀ σ L H, Sl X.K L σ Γ → R X.K L O H → ∀ RR : It → Hp → Prop, (∀ J (ds : List D) (G : Hp → Prop) (Y : Nat → Hp → V → Hp → Prop) O' L' H', κ ds O' → L.le L' → Walk J ds.length G Y → (∀ L2 O2 H2, L'.le L2 → R X.K L2 O2 H2 → G H2) →
      (∀ i x L2 O2 H2 H3, i < ds.length → L'.le L2 → R X.K L2 O2 H2 → Y i H2 x H3 → ∃ L3 d, L2.le L3 ∧ R X.K L3 O2 H3 ∧ ds[i]? = some d ∧ Is X.K L3 x d) → R X.K L' O' H' → RR J H') → wi σ H RR)
    (htt : ∀ Γ O k, BTs X scope [] Γ O k → ∀ σ L H, Sl X.K L σ Γ → R X.K L O H → ∀ Q, FolT X.K L k Q → tt σ H Q)
    {kp : List D → Addr → Ow → Prop} (hk : ∀ ds O1, κ ds O1 → LcG X elt scope vs t Γ ds O1 fun acc O' => ∀ p, O' p = none → kp acc p (put O' p (.lst acc)))
    {σ : L2.St} {L : Lg} {H : Hp} (hs : Sl X.K L σ Γ) (hr : R X.K L O H) {Q : VK} (q : ∀ acc p O' L' H', kp acc p O' → L.le L' → R X.K L' O' H' → Q (.ref p) H') : tLc wi (tgG X.K t) tt (uBE X scope elt) vs σ H Q := by
  refine hit σ L H hs hr _ fun J ds G Y O1 L1 H1 h1 e1 w hG hY r1 => fun Dl hD => ?_
  obtain ⟨P, p0, step, fin⟩ := hk ds O1 h1
  obtain ⟨f1, f2, f3⟩ := r1.free hD
  have hs1 := sl_wipe (hs.mono e1) vs
  refine lc_it w (fun i H' => ∃ acc O' L', P i acc O' ∧ O' Dl = none ∧ L1.le L' ∧ R X.K L' (put O' Dl (.lst acc)) H') ⟨[], O1, L1, p0, f2, .refl L1, r1.newLO hD .nil⟩ (fun i H' hi ⟨acc, O', L', _, _, le, r⟩ => hG L' _ H' le r) ?_ ?_
  · rintro i x H2 H3 hlt ⟨acc, O', L', hP, hDn, le, r'⟩ hy
    obtain ⟨L3, d, le3, r3, hd, is⟩ := hY i x L' _ H2 H3 hlt le r' hy
    have agr : Agr O' (put O' Dl (.lst acc)) := fun a od h => by
      rw [put_ne (fun e => by rw [e, hDn] at h; cases h)]; exact h
    obtain ⟨Γ2, hT, hb⟩ := step i d acc O' hd hP _ Dl agr hDn put_same
    refine tg_run r3 vs t hi is (hs1.mono (le.trans le3)) hT _ fun σ2 s2 hw => ⟨hw.trans ?_, ?_⟩
    · clear hw s2
      have : ∀ us : List Nat, (∀ u ∈ us, u ∈ vs) → wipe (wipe σ us) vs = wipe σ vs := fun us => by
        induction us with
        | nil => intro _; rfl
        | cons u us ih =>
          intro hu
          show wipe ((wipe σ us).set u none) vs = wipe σ vs
          rw [wipe_set (hu u List.mem_cons_self)]
          exact ih fun z hz => hu z (List.mem_cons_of_mem _ hz)
      exact this vs fun _ h => h
    · refine htt Γ2 (put O' Dl (.lst acc)) (fun b O3 => b = true ∧ O3 = put O' Dl (.lst acc)) ⟨rfl, rfl⟩ σ2 L3 H3 s2 r3 _ fun b O3 L4 H4 h4 e4 r4 => ?_
      obtain ⟨rfl, rfl⟩ := h4
      refine iteT ?_
      intro s H0 C cl fp
      refine hb s H0 C cl fp σ2 L4 H4 (s2.mono e4) r4 _ fun v y O5 L5 H5 h5 e5 i5 r5 => ?_
      obtain ⟨hz, h6, O6, n6, sub, hP'⟩ := h5
      obtain ⟨xs, g1, g2⟩ := own_lst r5 h6
      refine ⟨xs, g1, by rw [g2.length]; exact hz, acc ++ [y], O6, L5, hP', n6, ((le.trans le3).trans e4).trans e5, ?_⟩
      have z := r5.change (od' := .lst (acc ++ [y])) h6 ⟨_, upd_same, g2.append (.cons i5 .nil)⟩
      refine z.sub fun a od h => ?_
      by_cases c : a = Dl
      · subst c
        rw [put_same] at h ⊢
        exact h
      · rw [put_ne c] at h ⊢
        exact sub a od h
  · rintro H' ⟨acc, O', L', hP, hDn, le, r'⟩
    exact q acc Dl _ L' H' (fin acc O' hP Dl hDn) (e1.trans le) r'
theorem ws_setLcG {elt iter : Expr} {scope : Scope} {pos spos py : Pos} {y : Str} {j : Nat} {De : DE} (own : List (Str × Nat)) (t : Tg) (hc : X.calm = true) (hN : X.N.Nodup) (hy : X.N[j]? = some y) (hyl : X.env.scope.names.lookup y = some .local)
    (hsw : swapsWith (.ListComp elt [⟨tg, iter, [], 0⟩] scope pos) (some (.Name y py)) spos.line X.env = pure true) (ok : blkC X.N X.env.scope scope own = true) (hfs : ∀ x, foldedSetIterable iter X.env x = pure x)
    (hg : ∀ (s : Shared) (H : Hp) (C : Addr) (cl : List (Str × Addr)) (fp : List Addr), PG (Bk X scope s H C cl fp) tg (tgG X.K t)) (hi : ∀ i ∈ tgIx t, i ∈ own.map (·.2))
    (h : ItD X tg iter Γ O fun ds O1 => LcG X elt scope (own.map (·.2)) t Γ ds O1 fun acc O' => ∀ p, O' p = none → De.nx (Γ.set j (some (.own p))) (put O' p (.lst acc))) : WS X (.Assign [.Name y py] (.ListComp elt [⟨tg, iter, [], 0⟩] scope pos) spos) Γ O De := fun σ L H hs hr E q => by
  obtain ⟨wi, hpi, hit⟩ := h
  obtain ⟨tt, ht, htt⟩ := bts_univ (X := X) [] (.inl rfl) scope
  refine toS (ps_setLc (i := j) hc hN hy hyl hsw hpi (blkOk_by ok) hg ht (te := uBE X scope elt) (fun s H C cl fp => ⟨fun pins s1 σ H1 Q I h => h s H C cl fp pins s1 I⟩) hfs) ?_
  exact lc_runG hi hit htt (fun ds O1 h => h) hs hr fun acc p O' L' H' a le r => q.nx _ _ _ _ _ a le ((hs.mono le).set (.own p) j) r
end
end DL
/-! DL, part 9: own exceptions with an __init__ of their own over any base, also KeyError -/
namespace DL
open L2 PySem
open PySem.Spec PyProof.Rows
section
variable {prog : Program} {w : World} {M : Model} {A : Around} {E : Value → Shared → Prop} {R : Result → Shared → Prop} {h : Heap} {g : Array GenState} {d : Drawn} {t : Nat} {os : OsState} {nm q : Str} {C N : Addr} {bs bm : List Value} {hdct : Bool} {sn : List Str} {sub : List Value} {ab : Bool} {col : Option Bool} {dd : Option Addr} {k0 k1 k2 k3 k5 : Option Value}
abbrev lkId : String := "LookupError.__new__"
theorem lk_check {rest : List Value} {Q : Unit → Shared → Prop} (hC : h.get? C = some (excClassObj nm q C N bs bm hdct sn sub ab col dd k0 k1 k2 k3 k5 lkId)) (hb : bm.contains (.type "LookupError") = true)
    (hq : Q () ⟨h, g, d, t, os⟩) : wpAny M A (checkBuiltinCall lkId ⟨.ref C :: rest, []⟩) Q E ⟨h, g, d, t, os⟩ := by
  have F := F.excBase_LookupError
  rw [checkBuiltinCall.eq_1, F.newKind, F.newSplit, F.newRow]
  have hb2 : (Value.ref C :: bm).contains (.type "LookupError") = true := by
    rw [List.contains_cons, hb, Bool.or_true]
  refine wpAny_bind (ks_wpAny_isType_cls hC rfl (wpAny_bind (wpAny_isSubtype_exc hC ?_)))
  rw [hb2]
  refine wpAny_bind (wpAny_staticBase_exc
      hC (wpAny_bind (wpAny_madeBy_exc hC ?_)))
  have e : (Manifest.canonical lkId != Manifest.canonical lkId) = false := by simp
  dsimp only
  rw [if_neg (by rw [e]; exact Bool.false_ne_true)]
  exact wpAny_pure hq
theorem lk_new {rest : List Value} (hsz : rest.length ≤ sizeLine) (hC : h.get? C = some (excClassObj nm q C N bs bm hdct sn sub ab col dd k0 k1 k2 k3 k5 lkId)) (hb : bm.contains (.type "LookupError") = true) (ha : bm.contains (.type "AttributeError") = false) (hn : bm.contains (.type "NameError") = false)
    (hq : R (.ok (.ret (.ref (h.objs.size + 1)))) ⟨(h.push (PySem.W.kdv_tup rest)).push (HandSPX.excO C h.objs.size), g, d, t, os⟩) : codeAny (model prog w) A (.call (.builtin lkId) ⟨.ref C :: rest, []⟩) R ⟨h, g, d, t, os⟩ := by
  have F := F.excBase_LookupError
  have e1 : (Code.builtin lkId ⟨.ref C :: rest, []⟩).quiet = true := by
    show (!(Thread.loud _)) = true
    simp [Thread.loud, Thread.atCollectorCode, Thread.atExit, Thread.yieldsInsideHandler, F.quiet]
  refine codeAny_call_builtin_code e1 (lk_check hC hb ?_)
  refine codeAny_builtin_at F.entry ?_
  unfold
      Builtin.«BaseException.__new__»
  refine PyProof.Rows.wpAt_bind (PyProof.Rows.wpAt_owner rfl F.ends (PyProof.Rows.wpAt_of_any ?_))
  rw [F.owner]
  have hb2 : (Value.ref C :: bm).contains (.type "LookupError") = true := by
    rw [List.contains_cons, hb, Bool.or_true]
  refine wpAny_bind (ks_wpAny_isType_cls hC rfl (wpAny_bind (wpAny_isSubtype_exc hC ?_)))
  rw [hb2]
  refine wpAny_bind (wpAny_madeHere_exc F.canon hC ?_)
  rw [PySem.W.XFast.xe2079833473336796715]
  unfold PySem.W.XFast.xw2079833473336796715
  rw [← PySem.W.XFast.xe16098473122060591676]
  refine wpAny_bind (wpAny_bind (wpAny_isSubtype_exc hC ?_))
  have hA : (Value.ref C :: bm).contains (.type "AttributeError") = false := by
    rw [List.contains_cons, ha, Bool.or_false]; rfl
  have hN : (Value.ref C :: bm).contains (.type "NameError") = false := by
    rw [List.contains_cons, hn, Bool.or_false]; rfl
  rw [hA]
  refine wpAny_bind (wpAny_isSubtype_exc hC ?_)
  rw [hN]
  refine wpAny_pure ?_
  refine wpAny_bind (wpAny_newTuple (hsz := hsz) ?_)
  refine wpAny_bind ?_
  rw [newObj.eq_5]
  rw [if_neg (by show ¬ (6 > sizeLine + 2); rw [sizeLine_eq]; omega)]
  show wpAny _ _ (newObjAsIs
      _ _ _) _ _ _
  rw [newObjAsIs.eq_1]
  refine wpAny_bind (wpAny_alloc
      ?_)
  refine wpAny_bind ?_
  unfold classHasDel
  have hC2 : ((h.push (PySem.W.kdv_tup rest)).push (HandSPX.excO C h.objs.size)).get? C = some (excClassObj nm q C N bs bm hdct sn sub ab col dd k0 k1 k2 k3 k5 lkId) := Heap.get?_push_of_some _ (Heap.get?_push_of_some _ hC)
  refine wpAny_bind (wpAny_load hC2 ?_)
  refine wpAny_pure ?_
  show wpAny _ _ (pure _) _ _ _
  refine wpAny_pure ?_
  refine wpAny_pure ?_
  show R (.ok (.ret (.ref (h.push _).objs.size))) _
  rw [Heap.size_push]
  exact hq
theorem lk_type_call {rest : List Value} {fI : Addr} {Q : PySem.Fin → Shared → Prop} (hsz : rest.length ≤ sizeLine) (hC : h.get? C = some (excClassObj nm q C N bs bm hdct sn sub ab col dd k0 k1 k2 k3 k5 lkId)) (hb : bm.contains (.type "LookupError") = true) (ha : bm.contains (.type "AttributeError") = false) (hn : bm.contains (.type "NameError") = false)
    (hi : PySem.W.Looks (model prog w) h (typeLookup (.ref C) "__init__") (some (.ref fI))) (hf : ∀ self : Value, PySem.W.Looks (model prog w) h (bindSpecial (.ref fI) self) (.ref fI, [self]))
    (hq : codeAny (model prog w) A (.call (.ref fI) ⟨.ref (h.objs.size + 1) :: rest, []⟩) (fun r s' => match r with
      | .ok (.ret v) => v = .none ∧ Q (.done (.ret (.ref (h.objs.size + 1)))) s'
      | .ok _ => False
      | .error e => E e s') ⟨(h.push (PySem.W.kdv_tup rest)).push (HandSPX.excO C h.objs.size), g, d, t, os⟩) :
    wpAny (model prog w) A (Builtin.«type.__call__» ⟨.ref C :: rest,
        []⟩) Q E ⟨h, g, d, t, os⟩ := by
  unfold
      Builtin.«type.__call__»
  have c1 : ((Value.ref C == Value.type "type") = true) = False := by simp
  dsimp only
  rw [if_neg (by rw [c1]; exact id)]
  refine wpAny_bind (wpAny_mroOf_exc
      hC ?_)
  refine wpAny_bind (wpAny_madeBy_exc hC ?_)
  dsimp only
  refine wpAny_bind (wpAny_pure (wpAny_bind (wpAny_holding (wpAny_call ?_))))
  refine lk_new hsz hC hb ha hn ?_
  dsimp only
  let h2 := (h.push (PySem.W.kdv_tup rest)).push (HandSPX.excO C h.objs.size)
  have old : ∀ b o, h.get? b = some o → h2.get? b = some o := fun b o z => Heap.get?_push_of_some _ (Heap.get?_push_of_some _ z)
  have new : h2.get? (h.objs.size + 1) = some (HandSPX.excO C h.objs.size) := by heap_get
  refine wpAny_bind ?_
  unfold isInstance
  refine wpAny_bind (wpAny_typeOf_ref new ?_)
  refine wpAny_isSubtype_exc (old _ _ hC) ?_
  have cc : (Value.ref C :: bm).contains (Value.ref C) = true := by rw [List.contains_cons]; simp
  rw [cc]
  refine wpAny_bind (wpAny_holding
      ?_)
  unfold callSpecial? specialOf
  refine wpAny_bind (wpAny_bind (wpAny_typeOf_ref new ?_))
  refine hi _ _ _ _ old ?_
  refine wpAny_holding (wpAny_bind
      ?_)
  refine hf _ _ _ _ _ old ?_
  refine wpAny_bind (wpAny_call (codeAny_mono hq fun r s' hr => ?_))
  match r, hr with
  | .ok (.ret v), hr =>
    obtain ⟨e1, hr⟩ := hr
    subst e1
    refine wpAny_pure ?_
    exact wpAny_pure hr
  | .ok .next, hr => exact hr.elim
  | .ok .brk, hr => exact hr.elim
  | .ok .cont, hr => exact hr.elim
  | .error e, hr => exact hr
theorem lk_call {rest : List Value} {fI : Addr} (hsz : rest.length ≤ sizeLine) (hC : h.get? C = some (excClassObj nm q C N bs bm hdct sn sub ab col dd k0 k1 k2 k3 k5 lkId)) (hb : bm.contains (.type "LookupError") = true) (ha : bm.contains (.type "AttributeError") = false) (hn : bm.contains (.type "NameError") = false)
    (hi : PySem.W.Looks (model prog w) h (typeLookup (.ref C) "__init__") (some (.ref fI))) (hf : ∀ self : Value, PySem.W.Looks (model prog w) h (bindSpecial (.ref fI) self) (.ref fI, [self]))
    (hq : codeAny (model prog w) (A.under (.builtin "type.__call__" ⟨.ref C :: rest, []⟩)) (.call (.ref fI) ⟨.ref (h.objs.size + 1) :: rest, []⟩) (PySem.W.InitBack (h.objs.size + 1) R) ⟨(h.push (PySem.W.kdv_tup rest)).push (HandSPX.excO C h.objs.size), g, d, t, os⟩) :
    codeAny (model prog w) A (.call (.ref C) ⟨rest,
        []⟩) R ⟨h, g, d, t, os⟩ := by
  refine codeAny_of_tree ?_
  show wpAny _ _ (callAny (.ref C) ⟨rest, []⟩) _ _ _
  unfold callAny
  refine wpAny_bind (wpAny_load hC ?_)
  show wpAny _ _ (callAny.viaDunder _ _) _ _ _
  unfold callAny.viaDunder specialOf
  refine wpAny_bind (wpAny_bind (wpAny_typeOf_ref hC ?_))
  rw [F.lookup_type_call]
  refine wpAny_pure ?_
  dsimp only
  rw [F.bind_type_call]
  refine wpAny_bind (wpAny_pure
      ?_)
  refine wpAny_bind ?_
  show wpAny _ _ (pure true) _ _ _
  refine wpAny_pure ?_
  show wpAny _ _ (pure (Fin.again _)) _ _ _
  refine wpAny_pure ⟨?_, ?_⟩
  · show (!(Thread.loud _)) = true
    simp [Thread.loud, Thread.atCollectorCode, Thread.atExit, Thread.yieldsInsideHandler]
  · refine codeAny_call_builtin_code ?_ (wpAny_check_type_call_sub hC ?_)
    · show (!(Thread.loud _)) = true
      simp [Thread.loud, Thread.atCollectorCode, Thread.atExit, Thread.yieldsInsideHandler]
    · refine codeAny_builtin_at F.entry_type_call (PyProof.Rows.wpAt_of_any ?_)
      refine lk_type_call hsz hC hb ha hn hi hf (codeAny_mono hq fun r s' hr => ?_)
      match r, hr with
      | .ok (.ret
            v), hr => exact hr
      | .ok .next, hr => exact hr.elim
      | .ok .brk, hr => exact hr.elim
      | .ok .cont, hr => exact hr.elim
      | .error e, hr => exact hr
end
def keMro : List Value := [.type "KeyError", .type "LookupError", .type "Exception", .type "BaseException", .type "object"]
theorem store_KeyError : StoreFacts "KeyError" keMro "object.__setattr__" "object" := by
  have F := F.store_IndexError
  refine ⟨by first | rfl | kernel_rfl, ?_, F.entry, F.kind, F.split, by first | rfl | decide, F.args, fun self => by first | rfl | kernel_rfl⟩
  refine Slot.of (by first | rfl | kernel_rfl) F.split (by first | rfl | kernel_rfl | decide) (by first | rfl | kernel_rfl | decide) (by first | exact .inl rfl | exact .inl (by kernel_rfl) | exact .inl (by decide)) (by first | rfl | kernel_rfl) F.slot.plain
theorem exc_osaG {prog : Program} {w : World} {A : Around} {R : Result → Shared → Prop} {hp : Heap} {g : Array GenState} {d : Drawn} {t : Nat} {os : OsState} {K : PySem.W.Frag} {name : Str} {tk : Tok} {v : Value} {x C t0 : Addr} {B : String} {bmB : List Value} (SF : StoreFacts B bmB "object.__setattr__" "object") (X : K.In hp)
    (hx : hp.get? x = some (HandSPX.excO C t0)) (ov : PySem.W.excOver K C bmB = true) (ti : PySem.W.takerIn K C name = some none) {cd : ClassData} (hc : PySem.W.Looks (model prog w) hp (classData C) cd) (hd : cd.hasDict = true)
    (hq : ∀ (h' : Heap) (tk' dx : Nat), (∀ (b : Addr) (o : Obj), b ≠ x → hp.get? b = some o → h'.get? b = some o) → hp.objs.size ≤ dx → dx ≠ x → h'.get? x = some { cls := .ref C, dict := some dx, data := .fields #[.ref t0, .none, .none, .none, .bool false, .none] } →
      (h'.Ns1 dx fun y => if y = name then some v else none) → R (.ok (.ret .none)) { heap := h', gens := g, drawn := d, toks := tk', os := os }) :
    codeAny (model prog w) A (.call (.builtin "object.__setattr__") ⟨[.ref x, .str name tk, v], []⟩) R { heap := hp, gens := g, drawn := d, toks := t, os := os } := by
  have nx : hp.objs.size ≠ x := Nat.ne_of_gt (Heap.lt_size hx)
  refine PySem.W.osa_openX SF X (ox := HandSPX.excO C t0) (od := none) ⟨hx, rfl, rfl, trivial⟩ ov ti fun b => ?_
  dsimp only
  unfold Builtin.ObjectAttr.storeInOwnDict
  refine wpAny_bind ?_
  show wpAny _ _ (pure ()) _ _ _
  refine wpAny_pure ?_
  dsimp only
  rw [if_neg (fun z => by have z2 : (false : Bool) = true := z; cases z2)]
  refine wpAny_bind ?_
  show wpAny _ _ (instanceDict x true) _ _ _
  refine PySem.W.instanceDict_exc (C := C) (t := t0) (c2 := .none) hx hc hd ?_
  dsimp only
  refine HandSPX.store_in_new ?_ fun h' tk' hn hsb => ?_
  · refine ⟨PySem.W.dictOf [] 0, #[], 0, ?_, rfl, ?_, fun _ => rfl⟩
    · rw [Heap.get?_update_ne _ _ _ _ nx]
      exact Heap.get?_push_size
          _ rfl
    · intro e he
      exact absurd he (by simp)
  · obtain ⟨hs, hk⟩ := hsb
    have keep : ∀ (b : Addr) (o : Obj), b ≠ x → hp.get? b = some o → h'.get? b = some o := fun b o hb e => by
      have lt := Heap.lt_size e
      rw [hk b (Nat.ne_of_lt lt), Heap.get?_update_ne _ _ _ _ hb]
      exact Heap.get?_push_of_some
          _ e
    refine hq h' tk' hp.objs.size keep (Nat.le_refl _) nx ?_ hn
    rw [hk x (Ne.symm nx)]
    have q := Heap.get?_push_of_some (PySem.W.dictOf [] 0) hx
    exact Heap.get?_update_self _ q rfl
/-- the text of an __init__(self, f) that keeps its argument -/
structure IniT (st : Stmt) (f : Str) : Prop where
  body : ∃ q1 q2 q3 q4, defBody st = [.Assign [.Attribute (.Name "self" q1) f q2] (.Name f q3) q4]
  bd : ∀ (m qual : Str) (kV doc pm : Value) (an : Option Addr) (cdv ct a b : Value), bindArgs (PySem.W.fnOf m qual (defArgs st) (defBody st) (defScope st) .none kV doc pm an cdv ct) ⟨[a, b], []⟩ = pure [(("self" : Str), a), (f, b)]
  lc : ∀ a b : Value, ([((("self" : Str), a) : Str × Value), (f, b)].all fun y => List.lookup y.1 (defScope st).names == some NameKind.local || List.lookup y.1 (defScope st).names == some NameKind.cell) = true
  k1 : ∀ (q : Str) (L a : Addr) (cd : Value), (envOfC q (defScope st) L a cd).kindOf "self" = some .local
  k2 : ∀ (q : Str) (L a : Addr) (cd : Value), (envOfC q (defScope st) L a cd).kindOf f = some .local
  b1 : ∀ (q : Str) (L a : Addr) (cd x v : Value), bindL (envOfC q (defScope st) L a cd).kindOf [(("self" : Str), x), (f, v)] (fun _ => none) "self" = some x
  b2 : ∀ (q : Str) (L a : Addr) (cd x v : Value), bindL (envOfC q (defScope st) L a cd).kindOf [(("self" : Str), x), (f, v)] (fun _ => none) f = some v
  nf : (f == ("__debug__" : Str)) = false
  sw : ∀ (q3 p1 p2 q4 : Pos) (q : Str) (L a : Addr) (cd : Value) (o : Expr), True → swapsWith (.Name f q3) (some (.Attribute o f p2)) q4.line (envOfC q (defScope st) L a cd) = pure false
  s1 : (defScope st).isCoroutine = false
  s2 : (defScope st).isGenerator = false
  s3 : (defScope st).kind = .function
/-- how a class of exceptions is called -/
def CallsBy (bm : List Value) (newId : String) : Prop :=
  (newId = lkId ∧ bm.contains (.type "LookupError") = true ∧ bm.contains (.type "AttributeError") = false ∧ bm.contains (.type "NameError") = false) ∨
  ∃ (B initId : String) (bmB : List Value), ExcBaseFacts B newId initId bmB ∧ ∀ X : String, bm.contains (.type X) = bmB.contains (.type X)
/-- a class of exceptions at C, over any base; its __init__, at fI, keeps one argument in f -/
structure ExCl (K : PySem.W.Frag) (C : Addr) (f qual : Str) (st : Stmt) : Prop where
  cls : ∃ nm q N bs bm sn sub ab col dd k0 k1 k2 k3 k5 newId, K.lookup C = some (excClassObj nm q C N bs bm true sn sub ab col dd k0 k1 k2 k3 k5 newId) ∧ CallsBy bm newId
  sf : ∃ (B : String) (bmB : List Value), StoreFacts B bmB "object.__setattr__" "object" ∧ PySem.W.excOver K C bmB = true
  sa : PySem.W.findIn K (.ref C) "__setattr__" = some (some
      (.builtin "object.__setattr__"))
  noF : PySem.W.takerIn K C f = some none
  exC : PySem.W.subIn K (.ref C) (.type
      "BaseException") = some true
  tyC : PySem.W.typeIn K (.ref
      C) = some (.type "type")
  kC : PySem.W.keepIn K (.ref
      C) = true
  ini : ∃ fI : Addr, PySem.W.findIn K (.ref C) "__init__" = some (some (.ref fI)) ∧ PySem.W.typeIn K (.ref fI) = some (.type "function") ∧
    ∃ (oc : Value) (od : Option Addr) (kV doc pm : Value) (an : Option Addr) (cdv ct : Value) (osl : Array (Option Value)), K.lookup fI = some ⟨oc, od, .func (PySem.W.fnOf "__init__" qual (defArgs st) (defBody st) (defScope st) .none kV doc pm an cdv ct), osl⟩ ∧ PySem.W.codeIn K cdv qual = true
  tx : IniT st f
section
variable {prog : Program} {w : World} {A : Around} {R : Result → Shared → Prop} {K : PySem.W.Frag} {C : Addr} {f qual : Str} {st : Stmt} {s : Shared}
theorem ld_loc {M : Model} {s : Shared} {E : Value → Shared → Prop} {q : Str} {scope : Scope} {L a : Addr} {cd : Value} {m : Str → Option Value} {x : Str} {pos : Pos} {v : Value} {Q : Value → Shared → Prop} (hk : scope.kind = .function) (hl : (envOfC q scope L a cd).kindOf x = some .local) (hd : (x == ("__debug__" : Str)) = false) (hn : s.heap.Ns L m) (hv : m x = some v) (h : Q v s) :
    wpAny M A (eval (.Name x pos) (envOfC q scope L a cd)) Q E s := wpAny_Name (wpAny_loadName_local hk hl hn hv h) hd
/-- what __init__ leaves of the new object at x -/
structure IniE (h h' : Heap) (x C dx t1 : Addr) (f : Str) (v : Value) : Prop where
  keep : ∀ b o, b ≠ x → h.get? b
      = some o → h'.get? b = some o
  obj : h'.get? x
    = some { cls := .ref C, dict := some dx, data := .fields #[.ref t1, .none, .none, .none, .bool false, .none] }
  big : h.objs.size ≤ dx
  ne : dx ≠ x
  ns : h'.Ns1 dx (fun y => if y = f then some v else none)
theorem ini_call {fI x t0 : Addr} {v : Value} {oc : Value} {od : Option Addr} {kV doc pm : Value} {an : Option Addr} {cdv ct : Value} {osl : Array (Option Value)} (T : ExCl K C f qual st) (Kin : K.In s.heap) (lim : s.heap.NoLimit) (hx : s.heap.get? x = some (HandSPX.excO C t0)) (room : A.depth < recursionLimit)
    (hf : K.lookup fI = some ⟨oc, od, .func (PySem.W.fnOf "__init__" qual (defArgs st) (defBody st) (defScope st) .none kV doc pm an cdv ct), osl⟩) (hcd : PySem.W.codeIn K cdv qual = true)
    (hq : ∀ h' tk dx, IniE s.heap h' x C dx t0 f v → R (.ok (.ret .none)) { s with heap := h', toks := tk }) : codeAny (model prog w) A (.call (.ref fI) ⟨[.ref x, v], []⟩) R s := by
  obtain ⟨nm, q, N, bs, bm, sn, sub, ab, col, dd, k0, k1, k2, k3, k5, newId, hC, _⟩ := T.cls
  obtain ⟨B, bmB, SF, ov⟩ := T.sf
  obtain ⟨q1, q2, q3, q4, eb⟩ := T.tx.body
  refine Att.call_fn (binds := [(("self" : Str), .ref x), (f, v)]) Kin lim hf hcd room (BindsTo.of_eq (T.tx.bd _ _ _ _ _ _ _ _ _ _)) (T.tx.lc _ _) (fun s₁ IC => ?_) T.tx.s1 T.tx.s2 T.tx.s3
  have hn := IC.toInCall.ns
  obtain ⟨h₁, tk₁, e1⟩ := IC.toInCall.same
  subst e1
  have kp : ∀ b o, s.heap.get? b = some o → h₁.get? b = some o := IC.toInCall.keep
  have X1 : K.In h₁ := Kin.keeps kp
  have hx1 := kp _ _ hx
  have hL : s.heap.objs.size ≠ x := Nat.ne_of_gt (Heap.lt_size hx)
  rw [eb]
  refine wpAny_execs_cons (plainObj_wpAny_Assign_Attribute ?_ (T.tx.sw _ q1 _ _ _ _ _ _ _ trivial))
  refine ld_loc T.tx.s3 (T.tx.k2 _ _ _ _) T.tx.nf hn (T.tx.b2 _ _ _ _ _ _) ?_
  refine ld_loc T.tx.s3 (T.tx.k1 _ _ _ _) (by decide) hn (T.tx.b1 _ _ _ _ _ _) ?_
  refine PySem.W.set_plain X1 (ox := HandSPX.excO C t0) (od := none) ⟨hx1, rfl, rfl, trivial⟩ T.sa ?_
  have lc : PySem.W.Looks (model prog w) h₁ (classData C) _ := PySem.W.looks_clsIn X1 (cd := { name := nm, bases := bs, mro := .ref C :: bm, ns := N, qualname := q, hasDict := true, slotNames := sn, subclasses := sub, abstract := ab, collection := col }) (by unfold PySem.W.clsIn; rw [hC] <;> rfl)
  refine exc_osaG SF X1 hx1 ov T.noF lc rfl fun h' tk' dx k3 big ne hx3 hn3 => ?_
  show wpAny _ _ (execs [] _) _ _ _
  have z : s.heap.objs.size
      < h₁.objs.size := hn.lt
  exact wpAny_execs_nil (hq h' tk' dx ⟨fun b o hb e => k3 b o hb (kp b o e), hx3, Nat.le_of_lt (Nat.lt_of_lt_of_le z big), ne, hn3⟩)
/-- a made exception -/
structure ExM (h h' : Heap) (e C d : Addr) (f : Str) (v : Value) : Prop where
  keep : ∀ b o, h.get? b =
      some o → h'.get? b = some o
  new : h.objs.size ≤ e
  obj : ∃ t1, h'.get? e = some { cls := .ref C, dict := some d, data := .fields #[.ref t1, .none, .none, .none, .bool false, .none] }
  big : h.objs.size ≤ d
  ne : d ≠ e
  ns : h'.Ns1 d (fun y => if y = f then some v else none)
theorem exc_call {v : Value} (T : ExCl K C f qual st) (Kin : K.In s.heap) (lim : s.heap.NoLimit) (room : A.depth + 1 < recursionLimit)
    (hq : ∀ h' tk e d, ExM s.heap h' e C d f v → R (.ok (.ret (.ref e))) { s with heap := h', toks := tk }) : codeAny (model prog w) A (.call (.ref C) ⟨[v], []⟩) R s := by
  obtain ⟨nm, q, N, bs, bm, sn, sub, ab, col, dd, k0, k1, k2, k3, k5, newId, hC, hcb⟩ := T.cls
  obtain ⟨fI, iC, tI, oc, od, kV, doc, pm, an, cdv, ct, osl, hf, hcd⟩ := T.ini
  obtain ⟨hp, g,
      dr, tk, os⟩ := s
  have one : [v].length ≤ sizeLine := by rw [sizeLine_eq]; exact (by decide : 1 ≤ 16777216)
  let h2 := (hp.push (PySem.W.kdv_tup [v])).push (HandSPX.excO C hp.objs.size)
  have old : ∀ b o, hp.get? b = some o → h2.get? b = some o := fun b o e => Heap.get?_push_of_some _ (Heap.get?_push_of_some _ e)
  have new : h2.get? (hp.objs.size + 1) = some (HandSPX.excO C hp.objs.size) := by heap_get
  have hi := PySem.W.looks_findIn (M := model prog w) Kin iC
  have hb := fun self => PySem.W.bind_fn (M := model prog w) Kin self tI
  have body : codeAny (model prog w) (A.under (.builtin "type.__call__" ⟨.ref C :: [v], []⟩)) (.call (.ref fI) ⟨.ref (hp.objs.size + 1) :: [v], []⟩) (PySem.W.InitBack (hp.objs.size + 1) R) ⟨h2, g, dr, tk, os⟩ := by
    refine ini_call (s := ⟨h2, g, dr, tk, os⟩) T (Kin.keeps old) (lim.keeps old) new room hf hcd fun h' tk' dx I => ?_
    have z : hp.objs.size
        + 1 + 1 ≤ dx := by
      have q := I.big
      have e : h2.objs.size = hp.objs.size + 1 + 1 := by
        show ((hp.push _).push _).objs.size = _
        rw [Heap.size_push,
            Heap.size_push]
      rw [← e]
      exact q
    exact ⟨rfl, hq h' tk' (hp.objs.size + 1) dx ⟨fun b o e => I.keep b o (Nat.ne_of_lt (Nat.lt_succ_of_lt (Heap.lt_size e))) (old b o e), Nat.le_succ _, ⟨_, I.obj⟩, Nat.le_trans (Nat.le_trans (Nat.le_succ _) (Nat.le_succ _)) z, I.ne, I.ns⟩⟩
  rcases hcb with ⟨rfl, c1, c2, c3⟩ | ⟨B, initId, bmB, EF, hcon⟩
  · exact lk_call one (Kin _ _ hC) c1 c2 c3 hi hb body
  · exact HandSPX.call_own EF hcon (Kin _ _ hC) hi hb one body
end
theorem rel_one {v : V} {v' : Value} (r : RelV v v') (f : Str) (y : Str) : RelO (List.lookup y [(f, v)]) (if y = f then some v' else none) := by
  by_cases hw : y = f
  · subst hw
    rw [if_pos rfl]
    have q : List.lookup y [(y, v)] = some v := by simp [List.lookup]
    rw [q]
    exact r
  · rw [if_neg hw]
    have qw : (y == f) = false := by simpa using hw
    have q2 : List.lookup y [(f, v)] = none := by simp [List.lookup, qw]
    rw [q2]
    trivial
/-- the exception class x at C -/
structure KxG (X : Cx) (x : Str) (C : Addr) (f : Str) : Prop where
  cl : ∃ (qual : Str) (st : Stmt), ExCl X.K C f qual st
  mg : X.mg x = some (.ref C)
  gl : Gl X x
  db : (x == ("__debug__" : Str)) = false
section
variable {X : Cx} {L0 : Lg} {kg : KG} {Γ : Sg} {O : Ow} {k : KD} {De : DE} {e : Expr} {pos : Pos}
theorem pmkG {x f : Str} {C : Addr} {j : Nat} {p cpos : Pos} {ta : TA} (F : KxG X x C f) (hr : Room (j + 1) X.A) (he : starEach [e] X.env = (false, eval e X.env) :: starEach [] X.env) (hpl : (backTo cpos (starEach [] X.env)).any (·.1) = false) (ha : PA X [e] ta) :
    L2.PMk X (.Call (.Name x p) [e] [] cpos) (fun σ H Q => ta σ H fun vs H1 => ∃ v, vs = [v] ∧ ∀ dx, H1 dx = none → Q (.ref C) (some dx) (upd H1 dx (.xd [(f, v)]))) := fun pins s σ H Q I h => by
  obtain ⟨qual, st, T⟩ := F.cl
  refine wpAny_Call_Name_kw (ld_glob I F.gl F.mg ?_ F.db)
  refine PySem.W.callWith_K (h₀ := X.base) I.ok.mod.kin T.kC (thn (ha.run cpos pins s σ H _ I h) ?_) he hpl
  rintro us ⟨hp, g, dr, tk, os⟩ ⟨vs, H1, I1, r1, v, rfl, q1⟩
  refine ⟨I1.kIn, ?_⟩
  cases r1 with
  | cons rv rn =>
    rename_i v' us'
    cases rn
    show wpAny _ _ (call
        (.ref C) [v']) _ _ _
    refine wpAny_call (exc_call T I1.kIn I1.nolimit (by have := hr.dp; omega) fun h' tk' a d M => ?_)
    show L2.MkP X pins σ Q (.ref a) ⟨h', g, dr, tk', os⟩
    obtain ⟨t1, hoe⟩ := M.obj
    obtain ⟨G, g1, g2⟩ := restrict h' fun b => decide (b ≠ a)
    have gk : ∀ b, b ≠ a → G.get? b = h'.get? b := fun b hb => g1 b (decide_eq_true hb)
    have ga : G.get? a = none := g2 a (by simp)
    have old : ∀ b o, hp.get? b = some o → G.get? b = some o := fun b o z => (gk b (Nat.ne_of_lt (Nat.lt_of_lt_of_le (Heap.lt_size z) M.new))).trans (M.keep b o z)
    have ob : ObjOk X.prog X.w (upd H1 d (.xd [(f, v)])) G d (.xd [(f, v)]) := ⟨_, M.ns.at (fun o z => (gk d M.ne).trans z), fun y => rel_one rv f y⟩
    have J : L2.Inv X pins σ (upd H1 d (.xd [(f, v)])) ⟨G, g, dr, tk', os⟩ := I1.laid (t' := tk') old M.big ob
    have nd : upd H1 d (.xd [(f, v)]) a = none := by rw [upd_ne (Ne.symm M.ne)]; exact I1.hok.fresh M.new
    have back : ∀ b o, G.get? b = some o → h'.get? b = some o := fun b o z => by
      by_cases hb : b = a
      · rw [hb, ga] at z; cases z
      · exact (gk b hb).symm.trans z
    exact ⟨a, _, _, ⟨G, g, dr, tk', os⟩, _, .ref C, some d, rfl, J, back, ga, hoe, ⟨rfl, rfl⟩, rfl, rfl, nd, rfl, I1.bare, raises_own T.exC T.tyC, q1 d (I1.hok.fresh M.big)⟩
/-- raise x(e), x over any base -/
theorem xs_raiseG {x f : Str} {C : Addr} {j : Nat} {p cpos : Pos} (hc : X.calm = true) (tx : Tx X L0 kg) (F : KxG X x C f) (hr : Room (j + 1) X.A) (he : starEach [e] X.env = (false, eval e X.env) :: starEach [] X.env) (hpl : (backTo cpos (starEach [] X.env)).any (·.1) = false)
    (h : WE X e Γ O fun d O1 => kg C [(f, d)] Γ O1) : WSx X L0 (.Raise (some (.Call (.Name x p) [e] [] cpos)) none pos) Γ O De := fun σ L H l0 hs hR E q => by
  obtain ⟨W, tk, tw⟩ := tx.ex
  refine toS (ps_raise hc tk (pmkG F hr he hpl (pau [e]))) ?_
  have ha : WA X [e] Γ O fun ds O1 => ∃ d, ds = [d] ∧ kg C [(f, d)] Γ O1 := wa_cons he (h.imp fun d O1 z => wa_nil ⟨d, rfl, z⟩)
  refine ha σ L H hs hR _ fun vs ds O1 L1 H1 h1 e1 i1 r1 => ?_
  obtain ⟨d, rfl, hk⟩ := h1
  obtain ⟨v, rfl, iv⟩ := i1.one'
  exact ⟨v, rfl, fun dx hdx => tw C dx [(f, v)] [(f, d)] Γ O1 σ L1 _ hk (l0.trans e1) (hs.mono e1) upd_same rfl (.cons iv .nil) (r1.aside hdx)⟩
end
end DL
/-! DL, part L: methods that may raise, also own [] -/
namespace DL
open L2 PySem
open PySem.Spec PyProof.Rows
section
variable {base : Heap} {mg : Str → Option Value} {K : PySem.W.Frag} {w : World} {P : Program}
structure PkX (P : Program) (w : World) (K : PySem.W.Frag) (mg : Str → Option Value) (base : Heap) (C : Addr) (m : Str) (j : Nat) (S : SpD) : Prop where
  ex : ∃ (f : Addr) (fd : FuncData) (ps : List Str), FnG P w K mg base (L2.CX P w) j f fd ps (spOf K S) ∧ Meth K C m f ∧ Binds K fd ps []
  cl : Cls K C
theorem PkX.of {C : Addr} {m qual : Str} {st : Stmt} {N ps : List Str} {j : Nat} {S : SpD} (T : Dm K C m qual st ps) (c : Cls K C) (Sc : FnScope N ps (defScope st)) (len : ∀ ds O k kx, S ds O k kx → ds.length = ps.length)
    (h : ∀ (f : Addr) (cdv : Value) (A : Around) (outer : List Env) (s : Shared) (H : Hp) (E : XK), A.guards = some [] → Room j (A.deeper (envOfC qual (defScope st) s.heap.objs.size f cdv)) → ∀ L0 ds O k kx, S ds O k kx →
      Tx (Bx P w K mg base N qual st f cdv A outer s H E) L0 (fun C fds _ O' => kx C fds O') →
      WSsx (Bx P w K mg base N qual st f cdv A outer s H E) L0 (defBody st) (gst N.length ds) O { nx := fun _ O' => Ret k .non O', rt := Ret k }) : PkX P w K mg base C m (j + 1) S := by
  obtain ⟨f, fd, hm, F, hb⟩ := T.ex
  exact ⟨⟨f, fd, ps, fn_bodyX F Sc len (h f), hm, hb⟩, c⟩
end
/-- a method that is known and may raise -/
structure KmX (X : Cx) (C : Addr) (m : Str) (j : Nat) (S : SpD) : Prop where
  ex : ∃ (f : Addr) (fd : FuncData) (ps : List Str), FnG X.prog X.w X.K X.mg X.base (L2.CX X.prog X.w) j f fd ps (spOf X.K S) ∧ Meth X.K C m f ∧ Binds X.K fd ps []
  cl : Cls X.K C
theorem PkX.km {P : Program} {w : World} {K : PySem.W.Frag} {mg : Str → Option Value} {base : Heap} {C : Addr} {m : Str} {j : Nat} {S : SpD} (F : PkX P w K mg base C m j S) {X : Cx} (e1 : X.prog = P) (e2 : X.w = w) (e3 : X.K = K) (e4 : X.mg = mg) (e5 : X.base = base) : KmX X C m j S := by
  subst e1 e2 e3 e4 e5
  exact ⟨F.ex, F.cl⟩
section
variable {X : Cx} {L0 : Lg} {kg : KG} {Γ : Sg} {O : Ow} {k : KD} {De : DE} {C : Addr} {m : Str} {j : Nat} {S : SpD}
theorem run_gX {pins : List (Addr × Obj)} {σ : L2.St} {H : Hp} {s : Shared} {Q : VK} {W : WX} {A : Around} {us : List Value} {vs : List V} {f : Addr} {fd : FuncData} {ps : List Str} {sp : Sp} (tk : Takes X W) (G : FnG X.prog X.w X.K X.mg X.base (L2.CX X.prog X.w) j f fd ps sp) (hgd : A.guards = some []) (hr : Room j A) (e0 : Env0 X.prog X.w X.K X.mg X.base A X.stack s H) (hb : Binds X.K fd ps [])
    (I : Inv X pins σ H s) (r : Vals vs us) (h : sp vs H Q (fun cls d H' => W cls d σ H')) : wpAny (model X.prog X.w) A (call (.ref f) us) (EP X pins σ Q) X.xe s := by
  have hl : (us ++ []).length = ps.length := by rw [List.append_nil, ← r.length]; exact G.ln _ _ _ _ h
  refine wpAny_call (codeAny_mono (G.go A X.stack s H ⟨us, []⟩ (us ++ []) vs Q _ hgd hr e0 (hb s us I.kIn hl) (by rw [List.append_nil]; exact r) h) fun r s' hq => ?_)
  cases r with
  | error e => exact tk _ _ (XE.of_call I (fun _ _ _ h => h) hq)
  | ok fl =>
    cases fl with
    | ret u => exact I.after hq
    | next => exact False.elim hq
    | brk => exact False.elim hq
    | cont => exact False.elim hq
theorem sp_ofX {K : PySem.W.Frag} {W : WX} {σ : L2.St} {vs : List V} {ds : List D} {L : Lg} {H : Hp} {Q : VK}
    (tw : ∀ (C d : Addr) (fs : List (Str × V)) (fds : List (Str × D)) (Γ : Sg) (O : Ow) (σ : L2.St) (L : Lg) (H : Hp), kg C fds Γ O → L0.le L → Sl K L σ Γ → H d = some (.xd fs) → fs.map (·.1) = fds.map (·.1) → IsL K L (fs.map (·.2)) (fds.map (·.2)) → R K L O H → W (.ref C) (some d) σ H)
    (h : S ds O k fun Ce fe O3 => kg Ce fe Γ O3) (l0 : L0.le L) (hs : Sl K L σ Γ) (i : IsL K L vs ds) (r : R K L O H) (q : Fol K L k Q) : spOf K S vs H Q (fun cls d H' => W cls d σ H') :=
  ⟨ds, L, O, k, _, i, r, h, q, fun Ce d fs fe O3 L3 H3 hk le3 a b c r3 => tw Ce d fs fe Γ O3 σ L3 H3 hk (l0.trans le3) (hs.mono le3) a b c r3⟩
theorem we_methX {o e : Expr} {es : List Expr} {apos pos : Pos} {pl : Sem Bool} (F : KmX X C m j S) (tx : Tx X L0 kg) (hgd : X.A.guards = some []) (hr : Room j X.A)
    (hst : starEach (e :: es) X.env = (false, eval e X.env) :: starEach es X.env) (hpl : (backTo pos (starEach es X.env)).any (·.1) = false)
    (ht : eval (.Call (.Attribute o m
        apos) (e :: es) [] pos) X.env = (do
      let obj ← eval o X.env
      standAt apos.atName
      let (fn, head) ← holding [obj] (getMethod obj m pl)
      callWith pos fn head (backTo pos (starEach (e :: es) X.env)) (backToKw pos (keywordEach [] X.env))))
    (h : WE X o Γ O fun x O1 => ∃ fds, InD O1 x C fds ∧ fds.lookup m = none ∧ WA X (e :: es) Γ O1 fun ds O2 => S (x :: ds) O2 k fun Ce fe O3 => kg Ce fe Γ O3) : WEx X L0 (.Call (.Attribute o m apos) (e :: es) [] pos) Γ O k := fun σ L H l0 hs hR Q q pins s I => by
  obtain ⟨W, tk, tw⟩ := tx.ex
  obtain ⟨f, fd, ps, G, hm, hb⟩ := F.ex
  refine PySem.W.methodCall_KW (pl := pl) (thn (h σ L H hs hR (fun v H1 => ∃ x O1 L1, (∃ fds, InD O1 x C fds ∧ fds.lookup m = none ∧ WA X (e :: es) Γ O1 fun ds O2 => S (x :: ds) O2 k fun Ce fe O3 => kg Ce fe Γ O3) ∧ L.le L1 ∧ Is X.K L1 v x ∧ R X.K L1 O1 H1) (fun v x O1 L1 H1 a b c d => ⟨x, O1, L1, a, b, c, d⟩) pins s I)
    fun u s1 ⟨v, H1, I1, rv, x, O1, L1, ⟨fds, hi, hl, h2⟩, le1, is1, r1⟩ => ?_) ht
  obtain ⟨a, dx, fs, rfl, g1, g2, g3⟩ := inD_of r1 hi is1
  obtain rfl : u = Value.ref a := rv
  refine getmeth_ok I1 g1 F.cl hm ((lookup_is g2 g3).2 hl) ?_
  refine PySem.W.callWith_K (first := [.ref a]) (h₀ := X.base) I1.ok.mod.kin hm.kp (thn (h2 σ L1 H1 (hs.mono le1) r1 (fun vs H2 => ∃ ds O2 L2, (S (x :: ds) O2 k fun Ce fe O3 => kg Ce fe Γ O3) ∧ L1.le L2 ∧ IsL X.K L2 vs ds ∧ R X.K L2 O2 H2) (fun vs ds O2 L2 H2 a b c d => ⟨ds, O2, L2, a, b, c, d⟩) pos pins s1 I1)
    fun us s2 ⟨vs, H2, I2, rvs, ds, O2, M2, h3, le2, is2, r2⟩ => ⟨I2.kIn, ?_⟩) hst hpl
  have le := le1.trans le2
  exact run_gX (us := .ref a :: us) (vs := .ref a :: vs) tk G hgd hr I2.env0 hb I2 (.cons rfl rvs) (sp_ofX tw h3 (l0.trans le) (hs.mono le) (.cons (is1.mono le2) is2) r2 (q.le le))
theorem we_ixOwnX {a b : Expr} {pos : Pos} (F : KmX X C "__getitem__" j S) (tx : Tx X L0 kg) (gi : Gi X.K C) (hgd : X.A.guards = some []) (hr : Room (j + 1) X.A) (hsl : ∀ x i, subscripted b true (.ref x) i = runValue (.builtin "lifetime.subscript" ⟨[.ref x, i], []⟩))
    (h : WE X a Γ O fun x O1 => WE X b Γ O1 fun y O2 => ∃ fds, InD O2 x C fds ∧ S [x, y] O2 k fun Ce fe O3 => kg Ce fe Γ O3) : WEx X L0 (.Subscript a b pos) Γ O k := fun σ L H l0 hs hR Q q pins s I => by
  obtain ⟨W, tk, tw⟩ := tx.ex
  obtain ⟨f, fd, ps, G, M, bd⟩ := F.ex
  refine Subscript_ (binT (pu a) (pu b) I (R := fun vx vy H2 => ∃ (L2 : Lg) (x y : D) (O2 : Ow), L.le L2 ∧ Is X.K L2 vx x ∧ Is X.K L2 vy y ∧ R X.K L2 O2 H2 ∧ ∃ fds, InD O2 x C fds ∧ S [x, y] O2 k fun Ce fe O3 => kg Ce fe Γ O3)
    (h σ L H hs hR _ fun vx x O1 L1 H1 h1 e1 i1 r1 => h1 σ L1 H1 (hs.mono e1) r1 _ fun vy y O2 L2 H2 h2 e2 i2 r2 => ⟨L2, x, y, O2, e1.trans e2, i1.mono e2, i2, r2, h2⟩) fun v u s2 vx vy H2 I2 rx ry hv => ?_)
  obtain ⟨M2, x, y, O2, le, i1, i2, r2, fds, hx, hS⟩ := hv
  obtain ⟨p1, dx, fs, rfl, ha, _, _⟩ := inD_of r2 hx i1
  cases rx
  obtain ⟨mA, J, _⟩ := ins_get I2.hok ha
  obtain ⟨od, J, _⟩ := J.look
  obtain ⟨m, hF⟩ := I2.fr
  refine PySem.W.sub_K hF I2.ok.mod.kin J M.at_ (gi f M.at_) M.fn ?_ (hsl _ _)
  exact run_gX (A := X.A.in1) (us := [.ref p1, u]) (vs := [.ref p1, vy]) tk G hgd hr.in1 I2.env0.in1 bd I2 (.cons rfl (.cons ry .nil)) (sp_ofX tw hS (l0.trans le) (hs.mono le) (.cons i1 (.cons i2 .nil)) r2 (q.le le))
end
end DL
/-! DL, part O: a caught exception and builtin classes, lists cleared -/
namespace DL
open L2 PySem
open PySem.Spec PyProof.Rows
section
variable {X : Cx} {L0 : Lg} {kg : KG} {Γ : Sg} {O : Ow} {k : KD} {De : DE}
/-- isinstance(e, U), U a builtin class -/
theorem wc_isiXT {a C dd : Addr} {U : String} {oe : Obj} {pn : List (Addr × Obj)} {fds : List (Str × D)} {b : Bool} (T : ExcC X.K C) (hz : Zc (.ref C) (some dd) oe) (hv : ∃ vs, oe.data = .fields vs) (hk : PySem.W.kitOne X.K (.ref C) (.type U) = some b)
    (h : k (.bl b) O) : WC (X.suite a ((a, oe) :: pn)) (.builtin "isinstance") [.exc a dd fds, .ty U] O k := fun vs L H is hr Q q => by
  obtain ⟨v, u, rfl, i1, i2⟩ := is.two'
  obtain ⟨fs, rfl, hd, e1, e2⟩ := i1.exc'
  obtain rfl := i2.ty'
  have fin : Q (.bl b) H := q _ _ _ _ _ h (.refl L) (.bl _) hr
  intro pins s σ us I rx
  cases rx with
  | cons r1 t1 =>
    cases t1 with
    | cons r2 t2 =>
      cases t2
      cases r1
      cases r2
      obtain ⟨ha, _⟩ := I.pin (a, oe) (List.mem_append_left _ List.mem_cons_self)
      obtain ⟨ws, hws⟩ := hv
      have hx : ObjOk X.prog X.w H s.heap dd (.xd fs) := I.hok dd _ (hr.hp _ _ hd)
      obtain ⟨mA, hns, _⟩ := hx
      obtain ⟨od, ho, _⟩ := lookIn_ns hns
      have J : PySem.W.InstAt s.heap a oe C (some od) := ⟨ha, hz.1, by unfold PySem.W.notCls; rw [hws] <;> rfl, by rw [hz.2]; exact ho⟩
      have hcl : (PySem.W.clsIn X.K C).isSome = true := by
        obtain ⟨cd, hc, _⟩ := PySem.W.any_some T.hd
        rw [hc]; rfl
      exact PySem.W.kia_one (PySem.W.kitx_exc hcl T.hg T.hk T.hs T.ha T.hn T.ht T.hm) I.kIn J hk (fun z => nomatch z) fun tk => ⟨.bl b, H, I.kept (t' := tk) fun _ _ z => z, rfl, fin⟩
theorem wm_clear {p : Addr} {ds : List D} (ho : O p = some (.lst ds)) (h : k .non (put O p (.lst []))) : WM X "list.clear" (.own p) [] O k := fun vx vs L H ix is hr Q q => by
  cases is
  obtain ⟨xs, g1, g2⟩ := own_lst hr ho
  obtain rfl := ix.own'
  refine toM mt_clear ⟨p, xs, rfl, rfl, g1, ?_⟩
  exact q _ _ _ _ _ h (.refl L) .non (hr.change ho ⟨_, upd_same, .nil⟩)
end
end DL
/-! DL, part a: a view in which all is known and nothing is owned; lists that a loop clears -/
namespace DL
open L2 PySem
open PySem.Spec PyProof.Rows
mutual
/-- data of tuples and of frozen instances: no list, no dict -/
inductive Tpl : D → Prop
  | non : Tpl .non
  | bl (b : Bool) : Tpl (.bl b)
  | int (i : Int) : Tpl (.int i)
  | str (x : Str) : Tpl (.str x)
  | tup {ds : List D} : TplL ds → Tpl (.tup ds)
  | ins {C : Addr} {fds : List (Str × D)} : TplL (fds.map (·.2)) → Tpl (.ins C fds)
inductive TplL : List D → Prop
  | nil : TplL []
  | cons {d : D} {ds : List D} : Tpl d → TplL ds → TplL (d :: ds)
end
theorem tplL {ds : List D} (h : ∀ d ∈ ds, Tpl d) : TplL ds := by
  induction ds with
  | nil => exact .nil
  | cons d ds ih => exact .cons (h d List.mem_cons_self) (ih fun e he => h e (List.mem_cons_of_mem _ he))
def OD.lt : OD → Prop
  | .lst _ => True
  | .tab _ => True
  | _ => False
def cut (L' : Lg) (O : Ow) (L : Lg) : Lg := ⟨fun a => if (O a).isSome = true ∨ (L.bx a).isSome = true then none else L'.hp a, L.bx⟩
section
variable {K : PySem.W.Frag} {L L' : Lg} {O O' : Ow} {H H' : Hp}
theorem cut_keep (r : R K L O H) (ho : ∀ a od, O a = some od → od.lt) (le : (L.all H).le L') (r' : R K L' O' H') {a : Addr} {u : HO} (h : L'.hp a = some u) (h1 : ∀ vs, u ≠ .lst vs) (h2 : ∀ ps, u ≠ .tbl ps) : (cut L' O L).hp a = some u := by
  show (if (O a).isSome = true ∨ (L.bx a).isSome = true then none else L'.hp a) = some u
  rw [if_neg ?_]
  · exact h
  rintro (q | q)
  · obtain ⟨od, e⟩ := Option.isSome_iff_exists.mp q
    obtain ⟨z, hz⟩ := r.ow a od e
    have nb : L.bx a = none := by
      cases b : L.bx a with
      | none => rfl
      | some k => obtain ⟨_, w, _⟩ := r.bx a k b; rw [w] at e; cases e
    have key : ∀ o, H a = some o → o = u := fun o ho => by
      have w : (L.all H).hp a = some o := by
        show (if (L.bx a).isSome = true then none else H a) = some o
        rw [nb]
        exact ho
      exact Option.some.inj ((le.hp _ _ w).symm.trans h)
    have lt := ho a od e
    cases od with
    | lst ds => obtain ⟨vs, e1, _⟩ := hz; exact h1 vs (key _ e1).symm
    | tab t => obtain ⟨ps, e1, _⟩ := hz; exact h2 ps (key _ e1).symm
    | dic _ => exact lt
    | ins _ _ => exact lt
    | xcp _ _ => exact lt
    | opq _ => exact lt
  · obtain ⟨k, e⟩ := Option.isSome_iff_exists.mp q
    obtain ⟨w, _⟩ := r'.bx a k (le.bx a k e)
    rw [w] at h
    cases h
theorem cut_le (r : R K L O H) (le : (L.all H).le L') : L.le (cut L' O L) := by
  refine ⟨fun a o h => ?_, fun _ _ h => h⟩
  show (if (O a).isSome = true ∨ (L.bx a).isSome = true then none else L'.hp a) = some o
  rw [if_neg ?_]
  · exact le.hp _ _ (r.le_all.hp _ _ h)
  rintro (q | q)
  · obtain ⟨od, e⟩ := Option.isSome_iff_exists.mp q
    obtain ⟨z, _⟩ := r.ow a od e
    rw [h] at z
    cases z
  · obtain ⟨k, e⟩ := Option.isSome_iff_exists.mp q
    obtain ⟨z, _⟩ := r.bx a k e
    rw [h] at z
    cases z
theorem R.cut (r : R K L O H) (le : (L.all H).le L') (r' : R K L' O' H') : R K (cut L' O L) O H' := by
  have b := r.back le r'
  refine ⟨fun a o h => ?_, fun a k h => ?_, fun a od h => ?_⟩
  · have h' : (if (O a).isSome = true ∨ (L.bx a).isSome = true then none else L'.hp a) = some o := h
    split at h'
    · cases h'
    · exact r'.hp a o h'
  · have h' : L.bx a = some k := h
    obtain ⟨_, e2, e3⟩ := b.bx a k h'
    refine ⟨?_, e2, e3⟩
    show (if (O a).isSome = true ∨ (L.bx a).isSome = true then none else L'.hp a) = none
    rw [if_pos (.inr (by rw [h']; rfl))]
  · obtain ⟨_, e2⟩ := b.ow a od h
    refine ⟨?_, e2.mono (cut_le r le) rfl⟩
    show (if (O a).isSome = true ∨ (L.bx a).isSome = true then none else L'.hp a) = none
    rw [if_pos (.inl (by rw [h]; rfl))]
theorem cut_sq (r : R K L O H) (ho : ∀ a od, O a = some od → od.lt) (le : (L.all H).le L') (r' : R K L' O' H') {a : Addr} {vs : List V} (h : SqT K L'.hp a vs) : SqT K (cut L' O L).hp a vs := by
  rcases h with (h | ⟨o,
      h⟩) | h
  · exact .inl (.inl (cut_keep r ho le r' h (fun _ e => by cases e) fun _ e => by cases e))
  · exact .inl (.inr ⟨o, cut_keep r ho le r' h (fun _ e => by cases e) fun _ e => by cases e⟩)
  · exact .inr h
mutual
theorem Tpl.is (r : R K L O H) (ho : ∀ a od, O a = some od → od.lt) (le : (L.all H).le L') (r' : R K L' O' H') : ∀ {v : V} {d : D}, Tpl d → Is K L' v d → Is K (DL.cut L' O L) v d
  | _, _, .non, .non => .non
  | _, _, .bl _, .bl b => .bl b
  | _, _, .int _, .int b => .int b
  | _, _, .str _, .str b => .str b
  | _, _, .tup t, .tup s i => .tup (cut_sq r ho le r' s) (TplL.is r ho le r' t i)
  | _, _, .ins t, .ins s k i => .ins (cut_keep r ho le r' s (fun _ e => by cases e) fun _ e => by cases e) k (TplL.is r ho le r' t i)
theorem TplL.is (r : R K L O H) (ho : ∀ a od, O a = some od → od.lt) (le : (L.all H).le L') (r' : R K L' O' H') : ∀ {vs : List V} {ds : List D}, TplL ds → IsL K L' vs ds → IsL K (DL.cut L' O L) vs ds
  | _, _, .nil, .nil => .nil
  | _, _, .cons t ts, .cons i is => .cons (Tpl.is r ho le r' t i) (TplL.is r ho le r' ts is)
end
end
/-- slots seen frozen -/
inductive FzG (O : Ow) : Sg → Sg → Prop
  | nil : FzG O [] []
  | off {o : Option D} {Γ Γ' : Sg} : FzG O Γ Γ' → FzG O (o :: Γ) (none :: Γ')
  | on {d e : D} {Γ Γ' : Sg} : FzD O d e → FzG O Γ Γ' → FzG O (some d :: Γ) (some e :: Γ')
section
variable {X : Cx} {Γ Γ' : Sg} {O : Ow} {k : KD}
theorem FzG.sl {K : PySem.W.Frag} {L : Lg} {H : Hp} (r : R K L O H) : ∀ {Γ Γ' : Sg} {σ : L2.St}, FzG O Γ Γ' → Sl K L σ Γ → Sl K (L.all H) σ Γ'
  | _, _, σ, .nil, h => ⟨h.len, fun i d e => by simp at e⟩
  | _, _, [], .off f, h => absurd h.len (by simp)
  | _, _, [], .on _ f, h => absurd h.len (by simp)
  | o :: Γ, _, v :: σ, .off f, h => by
    have ih := FzG.sl r f (σ := σ) ⟨by simpa using h.len, fun i d e => by simpa using h.at_ (i + 1) d (by simpa using e)⟩
    refine ⟨by simpa using ih.len, fun i d e => ?_⟩
    cases i with
    | zero => simp at e
    | succ i => simpa using ih.at_ i d (by simpa using e)
  | some d :: Γ, some e0 :: _, v :: σ, .on fz f, h => by
    have ih := FzG.sl r f (σ := σ) ⟨by simpa using h.len, fun i d e => by simpa using h.at_ (i + 1) d (by simpa using e)⟩
    refine ⟨by simpa using ih.len, fun i e he => ?_⟩
    cases i with
    | zero =>
      have he' : e0 = e := by simpa using he
      subst he'
      obtain ⟨w, e1, e2⟩ := h.at_ 0 d rfl
      exact ⟨w, e1, fz.is r e2⟩
    | succ i => simpa using ih.at_ i e (by simpa using he)
/-- an expression in the view where nothing is owned; what it gives is of tuples -/
theorem we_view {e : Expr} (hΓ : FzG O Γ Γ') (ho : ∀ a od, O a = some od → od.lt) (h : WE X e Γ' (fun _ => none) fun d _ => Tpl d ∧ k d O) : WE X e Γ O k := fun σ L H hs hr Q q =>
  h σ (L.all H) H (hΓ.sl hr hs) hr.all Q fun v d O' L' H' ⟨t, hk⟩ le i r => q v d O _ H' hk (cut_le hr le) (t.is hr ho le r i) (hr.cut le r)
end
/-! ### a loop that clears the lists among the things of a list -/
def zD : Option Addr × List D → D
  | (some a, _) => .own a
  | (none, r) => .tup r
def clr1 (O : Ow) (x : Option Addr × List D) : Ow := match x.1 with
  | some a => put O a (.lst [])
  | none => O
def clr (O : Ow) (rz : List (Option Addr × List D)) : Ow := rz.foldl clr1 O
def onlyAt (n i : Nat) (d : D) : Sg := (List.replicate n none).set i (some d)
def allBut (L : Lg) (H : Hp) (a : Addr) : Lg := ⟨fun c => if (L.bx c).isSome = true ∨ c = a then none else H c, L.bx⟩
theorem clr_at {a : Addr} : ∀ (rz : List (Option Addr × List D)) {O : Ow} {ds : List D}, O a = some (.lst ds) → ds.all D.flat = true → ∃ es, clr O rz a = some (.lst es) ∧ es.all D.flat = true
  | [], O, ds, h, hf => ⟨ds, h, hf⟩
  | (none, r) :: rz, O, ds, h, hf => clr_at rz (O := O) h hf
  | (some b, r) :: rz, O, ds, h, hf => by
    by_cases e : a = b
    · subst e
      exact clr_at rz (O := put O a (.lst [])) (ds := []) put_same rfl
    · exact clr_at rz (O := put O b (.lst [])) (by rw [put_ne e]; exact h) hf
theorem clr_ne {a : Addr} : ∀ (rz : List (Option Addr × List D)) {O : Ow}, (∀ x ∈ rz, x.1 ≠ some a) → clr O rz a = O a
  | [], O, _ => rfl
  | (none, r) :: rz, O, h => clr_ne rz (O := O) fun x hx => h x (List.mem_cons_of_mem _ hx)
  | (some b, r) :: rz, O, h => by
    have e : a ≠ b := fun e => h _ List.mem_cons_self (by rw [e])
    exact (clr_ne rz (O := put O b (.lst [])) fun x hx => h x (List.mem_cons_of_mem _ hx)).trans (put_ne e)
theorem only_sl {K : PySem.W.Frag} {L : Lg} {σ : L2.St} {n i : Nat} {v : V} {d : D} (hl : σ.length = n) (h : σ[i]? = some (some v)) (is : Is K L v d) : Sl K L σ (onlyAt n i d) := by
  refine ⟨by unfold onlyAt; rw [List.length_set, List.length_replicate, hl], fun j e he => ?_⟩
  unfold onlyAt at he
  by_cases c : i = j
  · subst c
    have hi : i < n := by
      have := (List.getElem?_eq_some_iff.mp h).1
      omega
    rw [List.getElem?_set_self (by rw [List.length_replicate]; exact hi)] at he
    cases he
    exact ⟨v, h, is⟩
  · rw [List.getElem?_set_ne c, List.getElem?_replicate] at he
    split at he <;> cases he
theorem flat_isL {K : PySem.W.Frag} {L L' : Lg} : ∀ {vs : List V} {ds : List D}, ds.all D.flat = true → IsL K L vs ds → IsL K L' vs ds
  | _, _, _, .nil => .nil
  | _, _, h, .cons i is => by
    rw [List.all_cons,
        Bool.and_eq_true] at h
    exact .cons (is_flat h.1 i) (flat_isL h.2 is)
section
variable {K : PySem.W.Frag} {L L' : Lg} {O O' : Ow} {H H' : Hp} {a : Addr}
theorem R.allBut (r : R K L O H) {ds : List D} (ho : O a = some (.lst ds)) (hf : ds.all D.flat = true) : R K (allBut L H a) (put (fun _ => none) a (.lst ds)) H := by
  have nb : L.bx a = none := by
    cases b : L.bx a with
    | none => rfl
    | some k => obtain ⟨_, w, _⟩ := r.bx a k b; rw [w] at ho; cases ho
  refine ⟨fun c o h => ?_, fun c k h => ?_, fun c od h => ?_⟩
  · have h' : (if (L.bx c).isSome = true ∨ c = a then none else H c) = some o := h
    split at h'
    · cases h'
    · exact h'
  · have h' : L.bx c = some k := h
    obtain ⟨_, _, z⟩ := r.bx c k h'
    refine ⟨?_, ?_, z⟩
    · show (if (L.bx c).isSome = true ∨ c = a then none else H c) = none
      rw [if_pos (.inl (by rw [h']; rfl))]
    · rw [put_ne (fun e => by rw [e, nb] at h'; cases h')]
  · by_cases e : c = a
    · subst e
      rw [put_same] at h
      cases h
      obtain ⟨vs, e1, e2⟩ := own_lst r ho
      refine ⟨?_, vs, e1, flat_isL hf e2⟩
      show (if (L.bx c).isSome = true ∨ c = c then none else H c) = none
      rw [if_pos (.inr rfl)]
    · rw [put_ne e] at h
      cases h
theorem allBut_keep (r' : R K L' O' H') (le : (DL.allBut L H a).le L') {c : Addr} {o : HO} (hb : L.bx c = none) (hc : c ≠ a) (h : H c = some o) : H' c = some o :=
  r'.hp c o (le.hp c o (by
    show (if (L.bx c).isSome = true ∨ c = a then none else H c) = some o
    rw [hb, if_neg (fun z => z.elim (fun z => by cases z) hc)]
    exact h))
theorem R.cleared (r : R K L O H) {ds : List D} (ho : O a = some (.lst ds)) (le : (DL.allBut L H a).le L') (r' : R K L' O' H') (ha : O' a = some (.lst [])) : R K L (put O a (.lst [])) H' := by
  have na := (r.ow a _ ho).1
  have nb : ∀ c, (∃ o, L.hp c = some o) ∨ (∃ od, O c = some od) → L.bx c = none := fun c hc => by
    cases b : L.bx c with
    | none => rfl
    | some k =>
      obtain ⟨w1, w2, _⟩ := r.bx c k b
      rcases hc with ⟨o, e⟩ | ⟨o, e⟩
      · rw [w1] at e; cases e
      · rw [w2] at e; cases e
  refine ⟨fun c o h => ?_, fun c k h => ?_, fun c od h => ?_⟩
  · exact allBut_keep r' le (nb c (.inl ⟨o, h⟩)) (fun e => by rw [e, na] at h; cases h) (r.hp c o h)
  · obtain ⟨w1, w2, _⟩ := r.bx c k h
    obtain ⟨_, _, w3⟩ := r'.bx c k (le.bx c k h)
    exact ⟨w1, by rw [put_ne (fun e => by rw [e, ho] at w2; cases w2)]; exact w2, w3⟩
  · by_cases e : c = a
    · subst e
      rw [put_same] at h
      cases h
      obtain ⟨vs, e1, e2⟩ := own_lst r' ha
      cases e2
      exact ⟨na, [], e1, .nil⟩
    · rw [put_ne e] at h
      obtain ⟨w1, w2⟩ := r.ow c od h
      obtain ⟨u, hu⟩ := w2.some
      exact ⟨w1, w2.mono (.refl L) ((allBut_keep r' le (nb c (.inr ⟨od, h⟩)) e hu).trans hu.symm)⟩
end
section
variable {X : Cx} {Γ : Sg} {O : Ow} {De : DE}
theorem ws_clears {x y : Str} {i j : Nat} {g : Addr} {rz : List (Option Addr × List D)} {c cl : Expr} {p1 p2 pE pI pF : Pos} (hp : PassesOwn (model X.prog X.w) X.A X.env X.xe) (hc : X.calm = true) (hfs : ∀ z, foldedSetIterable (.Name y p2) X.env z = pure z)
    (hN : X.N.Nodup) (hxi : X.N[i]? = some x) (hxl : L2.Loc X.env.scope x) (hxf : X.fn x = true ∨ List.lookup x X.env.scope.names = some NameKind.local) (hsw : swapsWith cl none pE.line X.env = pure false)
    (hy : Va X y j) (hj : Γ[j]? = some (some (.own g))) (hi : i < Γ.length) (hg : O g = some (.lst (rz.map zD))) (hng : ∀ x ∈ rz, x.1 ≠ some g) (hz : ∀ x ∈ rz, ∀ a, x.1 = some a → O a = some (.lst x.2) ∧ x.2.all D.flat = true)
    (ht1 : ∀ ds, WT X c (onlyAt Γ.length i (.lst ds)) (fun _ => none) fun t _ => t = true) (ht2 : ∀ ds, WT X c (onlyAt Γ.length i (.tup ds)) (fun _ => none) fun t _ => t = false)
    (hcl : ∀ a ds O', O' a = some (.lst ds) → WE X cl (onlyAt Γ.length i (.own a)) O' fun _ O1 => O1 = put O' a (.lst [])) (h : De.nx (Γ.set i none) (clr O rz)) :
    WS X (.For (.Name x p1) (.Name y p2) [.If c [.Expr cl pE] [] pI] [] pF) Γ O De := fun σ L H hs hr E q => by
  refine toS (ps_for hp hc (pi_list (pu (.Name y p2))) (pg_name (pos := p1) hN hxi hxl hxf) (pssu _) hfs) ?_
  refine (we_var (k := fun d O1 => d = .own g ∧ O1 = O) (pos := p2) hy hj ⟨rfl, rfl⟩) σ L H hs hr _ fun v d O1 L1 H1 h1 e1 i1 r1 => ?_
  obtain ⟨hd, ho⟩ := h1
  subst hd
  subst ho
  obtain rfl := i1.own'
  obtain ⟨vs, g1, g2⟩ := own_lst r1 hg
  refine ⟨g, rfl, ⟨vs, .inl (.inl g1)⟩, ?_⟩
  have nbg : L1.bx g = none := by
    cases b : L1.bx g with
    | none => rfl
    | some k => obtain ⟨_, w, _⟩ := r1.bx g k b; rw [w] at hg; cases hg
  have hlen : vs.length = rz.length := by rw [g2.length, List.length_map]
  refine for_it (walk_list (K := X.K) (a := g) (xs := vs)) (fun n σ' H' => σ'.length = σ.length ∧ (∀ k, k ≠ i → σ'[k]? = σ[k]?) ∧ R X.K L1 (clr O1 (rz.take n)) H' ∧ H' g = some (.lst vs)) ⟨rfl, fun _ _ => rfl, r1, g1⟩ (fun n σ' H' _ hP => .inl (.inl hP.2.2.2)) ?_ ?_
  · rintro n xv σ' H2 H3 hn ⟨hl, hk, hr2, hgv⟩ ⟨hH, hxv⟩
    subst hH
    have hnr : n < rz.length := by omega
    have hrz : rz[n]? = some rz[n] := List.getElem?_eq_getElem hnr
    obtain ⟨d, hd, is⟩ := g2.getV hxv
    rw [List.getElem?_map, hrz] at hd
    have hd : zD rz[n] = d := Option.some.inj hd
    have hmem : rz[n] ∈ rz := List.getElem_mem hnr
    have tk : rz.take (n + 1) = rz.take n ++ [rz[n]] := by rw [List.take_succ, hrz]; rfl
    have tc : clr O1 (rz.take (n + 1)) = clr1 (clr O1 (rz.take n)) rz[n] := by
      unfold clr
      rw [tk, List.foldl_append]
      rfl
    have hil : i < σ'.length := by rw [hl, hs.len]; exact hi
    have hsi : (σ'.set i (some xv))[i]? = some (some xv) := by rw [List.getElem?_set_self hil]
    have hl2 : (σ'.set i (some xv)).length = Γ.length := by rw [List.length_set, hl, hs.len]
    have hk2 : ∀ k, k ≠ i → (σ'.set i (some xv))[k]? = σ[k]? := fun k hk' => by rw [List.getElem?_set_ne (Ne.symm hk')]; exact hk k hk'
    show uSs X _ _ (σ'.set i (some xv)) H3
    refine toSs (pss_one (ps_if (ptu c) (pssu _) (pssu _))) ?_
    -- the test, all that is there known
    have after : ∀ {t : Bool} {L4 : Lg} {O4 : Ow} {H4 : Hp}, (L1.all H3).le L4 → R X.K L4 O4 H4 → R X.K L1 (clr O1 (rz.take n)) H4 ∧ H4 g = some (.lst vs) := fun {t L4 O4 H4} e4 r4 => ⟨hr2.back e4 r4, r4.hp g _ (e4.hp g _ (by
      show (if (L1.bx g).isSome = true then none else H3 g) = _
      rw [nbg]
      exact hgv))⟩
    generalize hx : rz[n] = xr at hd hmem tk tc
    obtain ⟨o, r⟩ := xr
    cases o with
    | none =>
      have hd' : D.tup r = d := hd
      subst hd'
      refine ht2 r _ (L1.all H3) H3 (only_sl hl2 hsi (is.mono hr2.le_all)) hr2.all _ fun t O4 L4 H4 h4 e4 r4 => ?_
      subst h4
      obtain ⟨ra, ga⟩ := after (t := false) e4 r4
      refine iteF ?_
      refine toSs pss_nil ?_
      exact ⟨by rw [List.length_set]; exact hl, hk2, by rw [tc]; exact ra, ga⟩
    | some a =>
      have hd' : D.own a = d := hd
      subst hd'
      obtain rfl := is.own'
      obtain ⟨hoa, hfl⟩ := hz _ hmem a rfl
      have nga : g ≠ a := fun e => hng _ hmem (by rw [e])
      obtain ⟨es, he, hef⟩ := clr_at (rz.take n) hoa hfl
      refine ht1 es _ (L1.all H3) H3 (only_sl hl2 hsi (by
        obtain ⟨ws, w1, w2⟩ := own_lst hr2 he
        exact .lst (hr2.all_at he w1) (w2.mono hr2.le_all))) hr2.all _ fun t O4 L4 H4 h4 e4 r4 => ?_
      subst h4
      obtain ⟨ra, ga⟩ := after (t := true) e4 r4
      refine iteT ?_
      refine toSs (pss_one (ps_expr (pu cl) hsw)) ?_
      refine hcl a es _ put_same _ (allBut L1 H4 a) H4 (only_sl hl2 hsi (.own a)) (ra.allBut he hef) _ fun v6 d6 O6 L6 H6 h6 e6 i6 r6 => ?_
      subst h6
      exact ⟨by rw [List.length_set]; exact hl, hk2, by rw [tc]; exact ra.cleared he e6 r6 put_same, allBut_keep r6 e6 nbg nga ga⟩
  · rintro σ' H' ⟨hl, hk, hr2, _⟩
    rw [hlen, List.take_length] at hr2
    refine q.nx _ _ _ _ _ h e1 ⟨by rw [List.length_set, hl, hs.len], fun k d hd => ?_⟩ hr2
    by_cases e : i = k
    · subst e
      rw [List.getElem?_set_self hi] at hd
      cases hd
    · rw [List.getElem?_set_ne e] at hd
      obtain ⟨v, e2, e3⟩ := hs.at_ k d hd
      exact ⟨v, (hk k (Ne.symm e)).trans e2, e3.mono e1⟩
end
end DL
/-! DL, part b: a tuple backwards -/
namespace DL
open L2 PySem
open PySem.Spec PyProof.Rows
section
variable {prog : Program} {w : World} {M : Model}
    {A : Around} {E : Value → Shared → Prop} {s : Shared}
theorem rev_applied {sl : Addr} {u : Tok} {n : Nat} {Q : Int × Int × Nat → Shared → Prop} (h : s.heap.IsSliceOf sl .none .none (.int (-1) u)) (hq : Q ((n : Int) - 1, -1, n) s) : wpAny (model prog w) A (Builtin.Slice.sliceApplied (.ref sl) (pure (n : Int))) Q E s := by
  obtain ⟨o, h1, h2, h3⟩ := h
  unfold Builtin.Slice.sliceApplied
  have f : wpAny (model prog w) A (Builtin.Slice.sliceFields (.ref sl)) (fun a s' => a = (.none, .none, .int (-1) u) ∧ s' = s) E s := by
    unfold Builtin.Slice.sliceFields
    exact wpAny_bind (wpAny_field h1 h3 rfl (wpAny_bind (wpAny_field h1 h3 rfl (wpAny_bind (wpAny_field h1 h3 rfl (wpAny_pure ⟨rfl, rfl⟩))))))
  refine wpAny_bind (wpAny_mono f (fun a s' ha => ?_) fun _ _ z => z)
  obtain ⟨rfl, rfl⟩ := ha
  dsimp only
  refine wpAny_bind (slicePart_int ?_)
  refine wpAny_bind (slicePart_none
      ?_)
  refine wpAny_bind (slicePart_none
      ?_)
  refine wpAny_bind (wpAny_pure
      ?_)
  have e : Builtin.Slice.slicePlaces ((n : Int) - 1) (-1) (-1) = n := by
    unfold
        Builtin.Slice.slicePlaces
    rw [if_neg (by decide)]
    simp only [Int.neg_neg, Int.ediv_one]
    split <;> omega
  have g : (((n : Int) - 1, (-1 : Int), Builtin.Slice.slicePlaces ((n : Int) - 1) (-1) (-1)) : Int × Int × Nat) = ((n : Int) - 1, -1, n) := by rw [e]
  show wpAny _ _ (pure ((n : Int) - 1, (-1 : Int), Builtin.Slice.slicePlaces ((n : Int) - 1) (-1) (-1))) _ _ _
  rw [g]
  exact wpAny_pure hq
theorem tup_rev {t sl : Addr} {items : Array Value} {u : Tok} {Q : Value → Shared → Prop} (ht : IsTup s.heap t items) (hs : s.heap.IsSliceOf sl .none .none (.int (-1) u)) (hz : items.size ≤ sizeLine)
    (hq : Q (.ref s.heap.objs.size) { heap := s.heap.push { cls := .type "tuple", data := .seq items.toList.reverse.toArray }, gens := s.gens, drawn := s.drawn, toks := s.toks, os := s.os }) : wpAny (model prog w) A (getItem (.ref t) (.ref sl)) Q E s := by
  have hty : s.TypeIs (.ref t) "tuple" := by
    obtain ⟨o, h1, h2, _⟩ := ht
    exact ⟨o, h1, h2⟩
  refine wpAny_getItem_slot hty rfl F.slot_tuple_getitem (wpAny_call (codeAny_call_builtin F.slot_tuple_getitem.plain F.entry_tuple_getitem (F.slot_tuple_getitem.check _ _ _ _ _ _ _ _ hty (F.args_tuple_getitem_2 _ _) ?_)))
  unfold Builtin.«tuple.__getitem__»
  refine wpAny_bind (m := slotArgs "__getitem__" 1 _) (wpAny_pure ?_)
  dsimp only
  refine wpAny_bind (tupleItemsOf_
      ht ?_)
  obtain ⟨o, h1, h2, h3⟩ := id hs
  refine wpAny_bind (wpAny_typeOf_ref h1 ?_)
  rw [h2]
  refine wpAny_bind (rev_applied hs ?_)
  dsimp only
  have c1 : (((items.size : Int) - 1 == 0 && (-1 : Int) == 1 && items.size == items.size) = true) = False := by simp
  rw [if_neg (by rw [c1]; exact id)]
  have er : (List.filterMap (fun k : Nat => items[((items.size : Int) - 1 + (k : Int) * -1).toNat]?) (List.range items.size)) = items.toList.reverse := by
    have z := PySem.W.krv_pick items
    rw [slicePick.eq_1, PySem.W.krv_bounds, PySem.W.krv_sliceRange] at z
    have z2 := congrArg Array.toList z
    simp only [List.filterMap_map] at z2
    rw [← z2]
    congr 1
    funext k
    show _ = items[items.size - 1 - k]?
    congr 1
    omega
  rw [er]
  refine wpAny_bind ?_
  unfold
      Builtin.Tuple.tupleExact
  rw [newObj.eq_1, if_neg (by rw [List.size_toArray, List.length_reverse, Array.length_toList]; omega)]
  refine wpAny_newObjAsIs_type ?_
  show wpAny _ _ (pure _) _ _ _
  exact wpAny_pure hq
end
theorem vals_rev : ∀ {vs : List V} {us : List Value}, Vals vs us → Vals vs.reverse us.reverse
  | _, _, .nil => .nil
  | _, _, .cons a t => by
    rw [List.reverse_cons,
        List.reverse_cons]
    exact vals_app (vals_rev t) (.cons a .nil)
section
variable {X : Cx} {Γ : Sg} {O : Ow} {k : KD}
theorem we_revT {e : Expr} {kk : Nat} {p1 p2 p3 pos : Pos} (hlt : ∀ o r, letTemporaryGo e o r = pure ()) (h : WE X e Γ O fun d O1 => ∃ ds, d = .tup ds ∧ k (.tup ds.reverse) O1) : WE X (.Subscript e (.Slice none none (some (.UnaryOp .USub (.Constant (.int 1) kk p1) p2)) p3) pos) Γ O k := fun σ L H hs hr Q q pins s I => by
  refine Subscript_ (thn (h σ L H hs hr (fun v H1 => ∃ ds O1 L1, k (.tup ds.reverse) O1 ∧ L.le L1 ∧ Is X.K L1 v (.tup ds) ∧ R X.K L1 O1 H1) (fun v d O1 L1 H1 ⟨ds, hd, hk⟩ a b c => ⟨ds, O1, L1, hk, a, by rw [← hd]; exact b, c⟩) pins s I) fun uv s1 ⟨v, H1, I1, rv, ds, O1, L1, hk, le1, is1, r1⟩ => ?_)
  obtain ⟨a, vs, rfl, st, tt⟩ := is1.tup'
  obtain rfl : uv = Value.ref a := rv
  refine wpAny_Slice (wpAny_evalPart_none (wpAny_evalPart_none ?_))
  have m1 : WE X (.UnaryOp .USub (.Constant (.int 1) kk p1) p2) Γ O1 fun d O2 => d = .int (-1) ∧ O2 = O1 := we_un (we_int (wu_neg ⟨rfl, rfl⟩))
  refine thn (m1 σ L1 H1 (hs.mono le1) r1 (fun v H2 => v = .int (-1) ∧ ∃ L2, L1.le L2 ∧ R X.K L2 O1 H2) (fun v d O2 L2 H2 ⟨hd, ho⟩ a b c => ⟨(by subst hd; exact b.int'), L2, a, by rw [← ho]; exact c⟩) pins s1 I1) fun ust s3 ⟨v3, H3, I3, rv3, ev, M3, le3, r3⟩ => ?_
  subst ev
  obtain ⟨tk3, rfl⟩ := rv3
  obtain ⟨hp, g, dr, tk, os⟩ := s3
  obtain ⟨its, hv, hT, hz⟩ := I3.tuple (r3.st (le_st le3 st))
  let h4 := hp.push { cls := .type "slice", data := .fields #[.none, .none, .int (-1) tk3] }
  have old : ∀ b o, hp.get? b = some o → h4.get? b = some o := fun b o z => Heap.get?_push_of_some _ z
  have hT4 : IsTup h4 a its.toArray := by
    obtain ⟨o, e1, e2, e3⟩ := hT
    exact ⟨o, old _ _ e1, e2, e3⟩
  have hS4 : h4.IsSliceOf hp.objs.size .none .none (.int (-1) tk3) := ⟨_, Heap.get?_push_size _ rfl, rfl, rfl⟩
  have sz : its.toArray.size ≤ sizeLine := by rw [List.size_toArray, ← hv.length]; exact hz
  refine subscriptTail_builtin (T := "tuple") (id := "tuple.__getitem__") ?_ F.slot_tuple_getitem.lookup ?_ rfl (fun _ => hlt _ _)
  · obtain ⟨o, e1, e2, _⟩ := hT4
    exact ⟨o, e1, e2⟩
  refine tup_rev (s := ⟨h4, g, dr, tk, os⟩) hT4 hS4 sz ?_
  have e4 : h4.objs.size = hp.objs.size + 1 := Heap.size_push _ _
  have far : hp.objs.size ≤ h4.objs.size := by rw [e4]; exact Nat.le_succ _
  have old2 : ∀ b o, hp.get? b = some o → (h4.push { cls := .type "tuple", data := .seq its.toArray.toList.reverse.toArray }).get? b = some o := fun b o z => Heap.get?_push_of_some _ (old b o z)
  have ok : ObjOk X.prog X.w (upd H3 h4.objs.size (.tup vs.reverse)) (h4.push { cls := .type "tuple", data := .seq its.toArray.toList.reverse.toArray }) h4.objs.size (.tup vs.reverse) := by
    rw [ObjOk]
    refine ⟨by rw [List.length_reverse]; exact hz, its.reverse, vals_rev hv, ⟨_, Heap.get?_push_size _ rfl, rfl, 0, rfl⟩⟩
  have J := I3.laid (t' := tk) old2 far ok
  have free : H3 h4.objs.size = none := I3.hok.fresh far
  obtain ⟨L5, le5, is5, r5⟩ := r3.newT free (isL_rev (tt.mono le3))
  exact ⟨.ref h4.objs.size, _, J, rfl, q _ _ _ _ _ hk ((le1.trans le3).trans le5) is5 r5⟩
end
end DL
/-! DL, part c: exceptions as values -/
namespace DL
open L2 PySem
open PySem.Spec PyProof.Rows
theorem xo_ok {P : Program} {w : World} {H : Hp} {h : Heap} {a C : Addr} {d : Option Addr} {oe : Obj} (e : h.get? a = some oe) (z : Zc (.ref C) d oe) (v : ∃ vs, oe.data = .fields vs) : ObjOk P w H h a (XO C d a) :=
  ⟨⟨oe, e, z, v⟩, ⟨oe, e⟩, fun _ _ ⟨o, q, r⟩ k => ⟨o, k o q, r⟩⟩
theorem xo_at {P : Program} {w : World} {H : Hp} {h : Heap} {a C : Addr} {d : Option Addr} (hok : HOk P w H h) (he : H a = some (XO C d a)) : ∃ oe : Obj, h.get? a = some oe ∧ Zc (.ref C) d oe ∧ ∃ vs, oe.data = .fields vs := by
  have x : ObjOk P w H h a (.ext fun h => ∃ oe : Obj, h.get? a = some oe ∧ Zc (.ref C) d oe ∧ ∃ vs, oe.data = .fields vs) := hok a _ he
  exact x.1
section
variable {X : Cx} {Γ : Sg} {O : Ow} {k : KD}
/-- x(e), x over any base, as a value -/
def tMkV (C : Addr) (f : Str) (ta : TA) : TE := fun σ H Q => ta σ H fun vs H1 => ∃ v, vs = [v] ∧ ∀ a d, H1 a = none → H1 d = none → d ≠ a → Q (.ref a) (upd (upd H1 d (.xd [(f, v)])) a (XO C (some d) a))
theorem pe_mkV {x f : Str} {C : Addr} {j : Nat} {e : Expr} {p cpos : Pos} {ta : TA} (F : KxG X x C f) (hr : Room (j + 1) X.A) (he : starEach [e] X.env = (false, eval e X.env) :: starEach [] X.env) (hpl : (backTo cpos (starEach [] X.env)).any (·.1) = false) (ha : PA X [e] ta) :
    PE X (.Call (.Name x p) [e] [] cpos) (tMkV C f ta) := by
  refine ⟨fun pins s
      σ H Q I h => ?_⟩
  obtain ⟨qual, st, T⟩ := F.cl
  refine wpAny_Call_Name_kw (ld_glob I F.gl F.mg ?_ F.db)
  refine PySem.W.callWith_K (h₀ := X.base) I.ok.mod.kin T.kC (thn (ha.run cpos pins s σ H _ I h) ?_) he hpl
  rintro us ⟨hp, g, dr, tk, os⟩ ⟨vs, H1, I1, r1, v, rfl, q1⟩
  refine ⟨I1.kIn, ?_⟩
  cases r1 with
  | cons rv rn =>
    rename_i v' us'
    cases rn
    show wpAny _ _ (call
        (.ref C) [v']) _ _ _
    refine wpAny_call (exc_call T I1.kIn I1.nolimit (by have := hr.dp; omega) fun h' tk' a d M => ?_)
    obtain ⟨t1, hoe⟩ := M.obj
    obtain ⟨G, g1, g2⟩ := restrict h' fun b => decide (b ≠ a)
    have gk : ∀ b, b ≠ a → G.get? b = h'.get? b := fun b hb => g1 b (decide_eq_true hb)
    have ga : G.get? a = none := g2 a (by simp)
    have old : ∀ b o, hp.get? b = some o → G.get? b = some o := fun b o z => (gk b (Nat.ne_of_lt (Nat.lt_of_lt_of_le (Heap.lt_size z) M.new))).trans (M.keep b o z)
    have ob : ObjOk X.prog X.w (upd H1 d (.xd [(f, v)])) G d (.xd [(f, v)]) := ⟨_, M.ns.at (fun o z => (gk d M.ne).trans z), fun y => rel_one rv f y⟩
    have J : L2.Inv X pins σ (upd H1 d (.xd [(f, v)])) ⟨G, g, dr, tk', os⟩ := I1.laid (t' := tk') old M.big ob
    have na : H1 a = none := I1.hok.fresh M.new
    have nd : upd H1 d (.xd [(f, v)]) a = none := by rw [upd_ne (Ne.symm M.ne)]; exact na
    have back : ∀ b o, G.get? b = some o → h'.get? b = some o := fun b o z => by
      by_cases hb : b = a
      · rw [hb, ga] at z; cases z
      · exact (gk b hb).symm.trans z
    have J2 := J.laidN (t' := tk') (h' := h') (a := a) (o := XO C (some d) a) back ga nd (xo_ok hoe ⟨rfl, rfl⟩ ⟨_, rfl⟩)
    exact ⟨.ref a, _, J2, rfl, q1 a d na (I1.hok.fresh M.big) M.ne⟩
theorem we_mkG {x f : Str} {C : Addr} {j : Nat} {e : Expr} {p cpos : Pos} (F : KxG X x C f) (hr : Room (j + 1) X.A) (he : starEach [e] X.env = (false, eval e X.env) :: starEach [] X.env) (hpl : (backTo cpos (starEach [] X.env)).any (·.1) = false)
    (h : WE X e Γ O fun d O1 => ∀ a dd, O1 a = none → k (.exc a dd [(f, d)]) (put O1 a (.xcp C (some dd)))) : WE X (.Call (.Name x p) [e] [] cpos) Γ O k := fun σ L H hs hR Q q => by
  refine toE (pe_mkV F hr he hpl (pau [e])) ?_
  have ha : WA X [e] Γ O fun ds O1 => ∃ d, ds = [d] ∧ ∀ a dd, O1 a = none → k (.exc a dd [(f, d)]) (put O1 a (.xcp C (some dd))) := wa_cons he (h.imp fun d O1 z => wa_nil ⟨d, rfl, z⟩)
  refine ha σ L H hs hR _ fun vs ds O1 L1 H1 h1 e1 i1 r1 => ?_
  obtain ⟨d, rfl, hk⟩ := h1
  obtain ⟨v, rfl, iv⟩ := i1.one'
  refine ⟨v, rfl, fun a dd na nd ne => ?_⟩
  have r2 := r1.new (o := .xd [(f, v)]) nd
  have na2 : upd H1 dd (.xd [(f, v)]) a = none := by rw [upd_ne (Ne.symm ne)]; exact na
  have le := Lg.le_add (o := .xd [(f, v)]) (r1.free nd).1
  have r3 := r2.newOwn (p := a) (o := XO C (some dd) a) (od := .xcp C (some dd)) na2 upd_same
  exact q _ _ _ _ _ (hk a dd (r2.free na2).2.1) (e1.trans le) (.exc upd_same rfl (.cons (iv.mono le) .nil)) r3
/-- x(), a class without its own __init__, as a value -/
theorem we_mk0 {x : Str} {C : Addr} {p cpos : Pos} (F : Ke X x C) (h : ∀ a, O a = none → k (.own a) (put O a (.xcp C none))) : WE X (.Call (.Name x p) [] [] cpos) Γ O k := fun σ L H hs hR Q q => by
  obtain ⟨bmB, B, newId, initId, F1, q1⟩ := F.ex
  have mk : PE X (.Call (.Name x p) [] [] cpos) (fun _ H Q => ∀ a, H a = none → Q (.ref a) (upd H a (XO C none a))) := by
    refine ⟨fun pins s
        σ H Q I h => ?_⟩
    refine wpAny_Call_Name_kw (ld_glob I F.gl F.mg ?_ F.db)
    refine PySem.W.callWith_K0 (first := []) I.kIn F.kp ?_
    show wpAny _ _ (call (.ref C) []) _ _ _
    obtain ⟨bm, N, nm, qn, bs, hdct, sn, sub, ab, col, dd, k0, k1, k2, k3, k5, mN, hC, hN, hni, T⟩ := exc_obj I.kIn q1
    obtain ⟨hp, g,
        d, tk, os⟩ := s
    refine wpAny_call_exc_subT F1 T hC hN hni (fun h' e hm => ?_) (Nat.zero_le _)
    have hn : H e = none := I.hok.gone hm.new
    obtain ⟨t, ht, _,
        _⟩ := hm.there
    exact ⟨.ref e, upd H e (XO C none e), I.laidN hm.keeps hm.new hn (xo_ok ht ⟨rfl, rfl⟩ ⟨_, rfl⟩), rfl, h e hn⟩
  refine toE mk fun a na => ?_
  have r3 := hR.newOwn (p := a) (o := XO C none a) (od := .xcp C none) na upd_same
  exact q _ _ _ _ _ (h a (hR.free na).2.1) (.refl L) (.own a) r3
/-- e.f, e such a value -/
theorem we_xfV {e : Expr} {f : Str} {pos : Pos} (hb : attributeBase e f X.env (eval e X.env) = eval e X.env)
    (h : WE X e Γ O fun x O1 => ∃ (a C dd : Addr) (fds : List (Str × D)) (y : D), x = .exc a dd fds ∧ O1 a = some (.xcp C (some dd)) ∧ XfC X.K C ∧ PySem.W.findIn X.K (.ref C) f = some none ∧ fds.lookup f = some y ∧ k y O1) : WE X (.Attribute e f pos) Γ O k := fun σ L H hs hr Q q => by
  have pf : PE X (.Attribute e f pos) (fun σ H Q => uE X e σ H fun x H1 => ∃ (a C dd : Addr) (fs : List (Str × V)) (v : V), x = .ref a ∧ H1 a = some (XO C (some dd) a) ∧ XfC X.K C ∧ PySem.W.findIn X.K (.ref C) f = some none ∧ H1 dd = some (.xd fs) ∧ fs.lookup f = some v ∧ Q v H1) := by
    refine ⟨fun pins s
        σ H Q I h => ?_⟩
    refine attr_of hb (thn ((pu e).run pins s σ H _ I h) fun u s1 hh => ?_)
    obtain ⟨x, H1, I1, rx, a, C, dd, fs, v, ex, ea, T, hno, ed, l, q⟩ := hh
    subst ex
    obtain rfl : u =
        Value.ref a := rx
    obtain ⟨oe, ha, hz, vs, hd⟩ := xo_at I1.hok ea
    have hx : ObjOk X.prog X.w H1 s1.heap dd (.xd fs) := I1.hok dd _ ed
    obtain ⟨mA, hns, hr⟩ := hx
    obtain ⟨od, ho,
        hl⟩ := lookIn_ns hns
    obtain ⟨u, hu, ru⟩ := RelO.some_of (v := v) (o := mA f) (by rw [← l]; exact hr f)
    have J : PySem.W.InstAt s1.heap a oe C (some od) := ⟨ha, hz.1,
        by unfold PySem.W.notCls; rw [hd] <;> rfl, by rw [hz.2]; exact ho⟩
    exact HandSPX.exc_get I1.kIn J T.ga T.gg T.exC (PySem.W.findObj_own T.hdC hno rfl (by rw [hl,
        hu])) (handed_of ru) ⟨v, H1, I1.tok _, ru, q⟩
  refine toE pf ?_
  refine h σ L H hs hr _ fun v x O1 L1 H1 h1 e1 i1 r1 => ?_
  obtain ⟨a, C, dd, fds, y, ex, eo, T, hno, hl, h2⟩ := h1
  subst ex
  obtain ⟨fs, rfl, hd, e2, e3⟩ := i1.exc'
  obtain ⟨w, g1, g2⟩ := (lookup_is e2 e3).1 y hl
  exact ⟨a, C, dd, fs, w, rfl, (r1.ow _ _ eo).2, T, hno, r1.hp _ _ hd, g1, q _ _ _ _ _ h2 e1 g2 r1⟩
/-- isinstance(e, c), e such a value -/
inductive XV (O : Ow) (C : Addr) : D → Prop
  | fld {a dd : Addr} {fds : List (Str × D)} : O a = some (.xcp C (some dd)) → XV O C (.exc a dd fds)
  | bare {a : Addr} : O a = some (.xcp C none) → XV O C (.own a)
theorem wc_isV {C : Addr} {x c : D} {cv : Value} {b : Bool} (T : ExcC X.K C) (hx : XV O C x) (hc : (∃ P, c = .own P ∧ cv = .ref P) ∨ ∃ U, c = .ty U ∧ cv = .type U) (hk : PySem.W.kitOne X.K (.ref C) cv = some b)
    (h : k (.bl b) O) : WC X (.builtin "isinstance") [x, c] O k := fun vs L H is hr Q q => by
  obtain ⟨v, u, rfl, i1, i2⟩ := is.two'
  have fin : Q (.bl b) H := q _ _ _ _ _ h (.refl L) (.bl _) hr
  have hu : ∀ u', RelV u u' → u' = cv := by
    rcases hc with ⟨P, rfl, rfl⟩ | ⟨U, rfl, rfl⟩
    · obtain rfl := i2.own'
      exact fun u' z => z
    · obtain rfl := i2.ty'
      exact fun u' z => z
  have hcn : ∀ z : Addr × Nat, True := fun _ => trivial
  have key : ∀ (a : Addr) (d : Option Addr), v = .ref a → O a = some (.xcp C d) → (∀ dd, d = some dd → ∃ fs, H dd = some (.xd fs)) →
      ∀ pins (s : Shared) σ us, L2.Inv X pins σ H s → Vals [V.ref a, u] us → wpAny (model X.prog X.w) X.A (call (.builtin "isinstance") us) (EP X pins σ Q) X.xe s := by
    intro a d ev ho hd pins s σ us I rx
    cases rx with
    | cons r1 t1 =>
      cases t1 with
      | cons r2 t2 =>
        cases t2
        cases r1
        rw [hu _ r2]
        obtain ⟨oe, ha, hz, ws, hws⟩ := xo_at I.hok (hr.ow _ _ ho).2
        have hcl : (PySem.W.clsIn X.K C).isSome = true := by
          obtain ⟨cd, hc, _⟩ := PySem.W.any_some T.hd
          rw [hc]; rfl
        have fin2 : ∀ od, PySem.W.InstAt s.heap a oe C od → wpAny (model X.prog X.w) X.A (call (.builtin "isinstance") [.ref a, cv]) (EP X pins σ Q) X.xe s := fun od J =>
          PySem.W.kia_one (PySem.W.kitx_exc hcl T.hg T.hk T.hs T.ha T.hn T.ht T.hm) I.kIn J hk (by rcases hc with ⟨P, _, rfl⟩ | ⟨U, _, rfl⟩ <;> exact fun z => nomatch z) fun tk => ⟨.bl b, H, I.kept (t' := tk) fun _ _ z => z, rfl, fin⟩
        cases d with
        | none => exact fin2 none ⟨ha, hz.1, by unfold PySem.W.notCls; rw [hws] <;> rfl, by rw [hz.2]; exact trivial⟩
        | some dd =>
          obtain ⟨fs, hfs⟩ := hd dd rfl
          have hx : ObjOk X.prog X.w H s.heap dd (.xd fs) := I.hok dd _ hfs
          obtain ⟨mA, hns, _⟩ := hx
          obtain ⟨od, ho2, _⟩ := lookIn_ns hns
          exact fin2 (some od) ⟨ha, hz.1, by unfold PySem.W.notCls; rw [hws] <;> rfl, by rw [hz.2]; exact ho2⟩
  cases hx with
  | fld ho =>
    obtain ⟨fs, rfl, hd, _, _⟩ := i1.exc'
    intro pins s σ us I rx
    exact key _ _ rfl ho (fun dd e => by cases e; exact ⟨_, hr.hp _ _ hd⟩) pins s σ us I rx
  | bare ho =>
    obtain rfl := i1.own'
    intro pins s σ us I rx
    exact key _ _ rfl ho (fun dd e => by cases e) pins s σ us I rx
end
/-! ### lists that hold owned lists, seen frozen -/
mutual
inductive FzE (O : Ow) : D → D → Prop
  | same (d : D) : FzE O d d
  | own {p : Addr} {ds es : List D} : O p = some (.lst ds) → FzEs O ds es → FzE O (.own p) (.lst es)
  | lst {ds es : List D} : FzEs O ds es → FzE O (.lst ds) (.lst es)
inductive FzEs (O : Ow) : List D → List D → Prop
  | nil : FzEs O [] []
  | cons {d e : D} {ds es : List D} : FzE O d e → FzEs O ds es → FzEs O (d :: ds) (e :: es)
end
section
variable {K : PySem.W.Frag} {L L' : Lg} {O O' : Ow} {H H' : Hp}
mutual
theorem FzE.is (r : R K L O H) : ∀ {v : V} {d e : D}, FzE O d e → Is K L v d → Is K (L.all H) v e
  | _, _, _, .same _, i => i.mono r.le_all
  | v, _, _, .own (p := p) (ds := ds) (es := es) ho f, i => by
    obtain rfl := i.own'
    obtain ⟨vs, e1, i1⟩ := own_lst r ho
    exact .lst (r.all_at ho e1) (FzEs.is r f i1)
  | _, _, _, .lst f, .lst h i => .lst (r.le_all.hp _ _ h) (FzEs.is r f i)
theorem FzEs.is (r : R K L O H) : ∀ {vs : List V} {ds es : List D}, FzEs O ds es → IsL K L vs ds → IsL K (L.all H) vs es
  | _, _, _, .nil, .nil => .nil
  | _, _, _, .cons f fs, .cons i is => .cons (FzE.is r f i) (FzEs.is r fs is)
end
end
section
variable {X : Cx} {Γ : Sg} {O : Ow} {k : KD}
theorem wo_fzE {f : Value → Value → Sem Value} {x y x' y' : D} (hx : FzE O x x') (hy : FzE O y y') (h : WO X f x' y' (fun _ => none) fun d _ => d.flat = true ∧ k d O) : WO X f x y O k := fun vx vy L H ix iy hR Q q =>
  h vx vy (L.all H) H (hx.is hR ix) (hy.is hR iy) hR.all Q fun v d O' L' H' ⟨fl, hk⟩ le i r => q v d O L H' hk (.refl L) (is_flat fl i) (R.back hR le r)
end
/-! ### an exception whose __init__ is walked, as a value -/
section
variable {X : Cx} {Γ : Sg} {O : Ow} {k : KD}
theorem pe_oexV {CX : CXT} {x : Str} {C fI : Addr} {j : Nat} {fd : FuncData} {ps : List Str} {sp : Sp} {e : Expr} {es : List Expr} {ta : TA} {p pos : Pos} (T : OexC X.K C) (iC : PySem.W.findIn X.K (.ref C) "__init__" = some (some (.ref fI))) (tI : PySem.W.typeIn X.K (.ref fI) = some (.type "function"))
    (F1 : FnOk X.prog X.w X.K X.mg X.base CX j fI fd ps sp) (hr : Room (j + 1) X.A) (hb : Binds X.K fd ps []) (hx : Passes CX X (fun _ _ _ => False)) (hg : Gl X x) (hm : X.mg x = some (.ref C)) (ha : PA X (e :: es) ta)
    (hdb : (x == ("__debug__" : Str)) = false) (he : starEach (e :: es) X.env = (false, eval e X.env) :: starEach es X.env) (hpl : (backTo pos (starEach es X.env)).any (·.1) = false) :
    PE X (.Call (.Name x p) (e :: es) [] pos) (fun σ H Q => ta σ H fun vs H1 => vs.length ≤ 1000 ∧ ∀ a, H1 a = none → sp (.ref a :: vs) (upd H1 a (exo a C none))
      (fun v H2 => v = .non ∧ ∃ (d : Addr) (fs : List (Str × V)), H2 a = some (exo a C (some d)) ∧ H2 d = some (exd d fs) ∧ d ≠ a ∧ Q (.ref a) (upd (upd H2 d (.xd fs)) a (XO C (some d) a))) (fun _ _ _ => False)) := by
  refine ⟨fun pins s
      σ H Q I h => ?_⟩
  obtain ⟨nm, q, N, bs, bm, sn, sub, ab, col,
      dd, k0, k1, k2, k3, k5, hC, hbm⟩ := T.cls
  refine wpAny_Call_Name_kw (ld_glob
      I hg hm ?_ hdb)
  refine PySem.W.callWith_K (h₀ := X.base) I.ok.mod.kin T.kC (thn (ha.run pos pins s σ H _ I h) fun us s1 ⟨vs,
      H1, I1, r1, hz, q1⟩ => ⟨I1.kIn, ?_⟩) he hpl
  show wpAny _ _ (call
      (.ref C) us) _ _ _
  obtain ⟨hp, g,
      dr, tk, os⟩ := s1
  have hsz : hp.objs.size ≤
      hp.objs.size + 1 := Nat.le_succ _
  have hn : H1 (hp.objs.size +
      1) = none := I1.hok.fresh hsz
  have hq := q1 (hp.objs.size
      + 1) hn
  have kk : ∀ b o, hp.get? b = some o → ((hp.push (PySem.W.kdv_tup us)).push (PySem.HandSPX.excO C
      hp.objs.size)).get? b = some o := fun b o e => Heap.get?_push_of_some _ (Heap.get?_push_of_some _ e)
  have hget : ((hp.push (PySem.W.kdv_tup us)).push (PySem.HandSPX.excO C
      hp.objs.size)).get? (hp.objs.size + 1) = some (PySem.HandSPX.excO C hp.objs.size) := by heap_get
  have I2 : L2.Inv X pins σ (upd H1 (hp.objs.size + 1) (exo (hp.objs.size + 1) C none)) ⟨(hp.push (PySem.W.kdv_tup us)).push (PySem.HandSPX.excO C hp.objs.size), g, dr, tk, os⟩ :=
    I1.laid (t' := tk) (a := hp.objs.size + 1) (o := exo (hp.objs.size + 1) C none) (h' :=
        (hp.push (PySem.W.kdv_tup us)).push (PySem.HandSPX.excO C hp.objs.size)) kk hsz (exo_ok hget)
  have r2 : Vals (V.ref (hp.objs.size + 1) ::
      vs) (Value.ref (hp.objs.size + 1) :: us) := .cons rfl r1
  have hl : (Value.ref (hp.objs.size + 1)
      :: us ++ []).length = ps.length := by
    rw [List.append_nil]
    have e := r2.length
    rw [F1.len _ _ _ _ hq] at e
    exact e.symm
  have hus : us.length
      ≤ sizeLine := by
    rw [← Paired.length r1,
        sizeLine_eq]
    omega
  refine wpAny_call (PySem.HandSPX.call_own F.excBase_ValueError (fun Y => PySem.HandSPX.refsVE_contains Y
      bm hbm) (I1.kIn _ _ hC) (PySem.W.looks_findIn I1.kIn iC) (fun self => PySem.W.bind_fn I1.kIn self tI) hus
    (codeAny_mono (F1.run _ X.stack _ _ ⟨Value.ref (hp.objs.size + 1) :: us, []⟩ (Value.ref (hp.objs.size + 1) :: us ++ []) _ _ (fun _ _ _ => False) (hr.make C us []) (I2.env0.make C us []) (hb _ (Value.ref (hp.objs.size + 1) :: us) I2.kIn hl) (by rw [List.append_nil]; exact r2) hq) fun r s' hq' => ?_))
  cases r with
  | error er => exact hx _ _ _ _ er s' I2 hq'
  | ok fl =>
    cases fl with
    | ret u =>
      obtain ⟨v, H2, os2, bare2, un2, hok2, rv, ev, d, fs, ea, ed, ne, q2⟩ := hq'
      subst ev
      obtain ⟨h2, g2,
          d2, t2, os'⟩ := s'
      obtain ⟨t0, hoe⟩ := exo_at hok2 ea
      obtain ⟨mA, hns, rel⟩ := exd_at hok2 ed
      have I3 : L2.Inv X pins σ H2 ⟨h2, g2, d2, t2, os'⟩ := I2.call' (ch := []) os2 un2 hok2 bare2 (fun b z => absurd z (by simp))
      have hod : ∃ u, h2.get? d = some u := by
        obtain ⟨o, es, ep, e1, _⟩ := hns
        exact ⟨o, e1⟩
      have I4 := I3.write (t' := t2) (x := d) (e := d) (o := .xd fs) (h' := h2) (by rw [ed]; exact True.intro) (.inl rfl) (fun _ _ _ z => z) hod ⟨mA, hns, rel⟩
      have I5 := I4.write (t' := t2) (x := hp.objs.size + 1) (e := hp.objs.size + 1) (o := XO C (some d) (hp.objs.size + 1)) (h' := h2) (by rw [upd_ne (Ne.symm ne), ea]; exact True.intro) (.inl rfl) (fun _ _ _ z => z) ⟨_, hoe⟩ (xo_ok hoe ⟨rfl, rfl⟩ ⟨_, rfl⟩)
      exact ⟨rv, ⟨.ref (hp.objs.size + 1), _, I5, rfl, q2⟩⟩
    | next => exact
          False.elim hq'
    | brk => exact False.elim hq'
    | cont => exact
          False.elim hq'
/-- what __init__(self, f, g) does -/
def spXc2 (C : Addr) (f g : Str) : Sp := fun vs H Q _ => ∃ (a : Addr) (y z : V), vs = [.ref a, y, z] ∧ H a = some (exo a C none) ∧ ∀ dx, H dx = none → dx ≠ a → Q .non (upd (upd (upd H dx (exd dx [(f, y)])) a (exo a C (some dx))) dx (exd dx [(g, z), (f, y)]))
/-- the exception class x at C, whose __init__ keeps two arguments in f and g -/
structure Kx2 (X : Cx) (x : Str) (C : Addr) (f g : Str) (j : Nat) : Prop where
  cl : OexC X.K C
  ex : ∃ (fI : Addr) (fd : FuncData) (ps : List Str), PySem.W.findIn X.K (.ref C) "__init__" = some (some (.ref fI)) ∧ PySem.W.typeIn X.K (.ref fI) = some (.type "function") ∧ FnOk X.prog X.w X.K X.mg X.base CX0 j fI fd ps (spXc2 C f g) ∧ Binds X.K fd ps []
  mg : X.mg x = some (.ref C)
  gl : Gl X x
  db : (x == ("__debug__" : Str)) = false
theorem we_mk2 {x f g : Str} {C : Addr} {j : Nat} {e e2 : Expr} {p cpos : Pos} (F : Kx2 X x C f g j) (hr : Room (j + 1) X.A) (he : starEach [e, e2] X.env = (false, eval e X.env) :: starEach [e2] X.env) (hpl : (backTo cpos (starEach [e2] X.env)).any (·.1) = false)
    (h : WA X [e, e2] Γ O fun ds O1 => ∃ d d2, ds = [d, d2] ∧ ∀ a dd, O1 a = none → k (.exc a dd [(g, d2), (f, d)]) (put O1 a (.xcp C (some dd)))) : WE X (.Call (.Name x p) [e, e2] [] cpos) Γ O k := fun σ L H hs hR Q q => by
  obtain ⟨fI, fd, ps, iC, tI, F1, hb⟩ := F.ex
  refine toE (pe_oexV F.cl iC tI F1 hr hb pass0 F.gl F.mg (pau [e, e2]) F.db he hpl) ?_
  refine h σ L H hs hR _ fun vs ds O1 L1 H1 h1 e1 i1 r1 => ?_
  obtain ⟨d, d2, rfl, hk⟩ := h1
  obtain ⟨v, u, rfl, iv, iu⟩ := i1.two'
  refine ⟨by show 2 ≤ 1000; decide, fun a ha1 => ⟨a, v, u, rfl, upd_same, fun dx hdx hne => ?_⟩⟩
  have h1dx : H1 dx = none := by rw [upd_ne hne] at hdx; exact hdx
  have hna : a ≠ dx := Ne.symm hne
  refine ⟨rfl, dx, [(g, u), (f, v)], ?_, upd_same, hne, ?_⟩
  · rw [upd_ne hna]; exact upd_same
  have eH : upd (upd (upd (upd (upd (upd H1 a (exo a C none)) dx (exd dx [(f, v)])) a (exo a C (some dx))) dx (exd dx [(g, u), (f, v)])) dx (.xd [(g, u), (f, v)])) a (XO C (some dx) a) = upd (upd H1 dx (.xd [(g, u), (f, v)])) a (XO C (some dx) a) := by
    funext b
    by_cases c2 : b = a
    · subst c2; rw [upd_same, upd_same]
    · rw [upd_ne c2, upd_ne c2]
      by_cases c1 : b = dx
      · subst c1; rw [upd_same, upd_same]
      · rw [upd_ne c1, upd_ne c1, upd_ne c1, upd_ne c2, upd_ne c1, upd_ne c2]
  rw [eH]
  have r2 := r1.new (o := .xd [(g, u), (f, v)]) h1dx
  have na2 : upd H1 dx (.xd [(g, u), (f, v)]) a = none := by rw [upd_ne hna]; exact ha1
  have le := Lg.le_add (o := .xd [(g, u), (f, v)]) (r1.free h1dx).1
  have r3 := r2.newOwn (p := a) (o := XO C (some dx) a) (od := .xcp C (some dx)) na2 upd_same
  exact q _ _ _ _ _ (hk a dx (r2.free na2).2.1) (e1.trans le) (.exc upd_same rfl (.cons (iu.mono le) (.cons (iv.mono le) .nil))) r3
end
/-! ### what is owned, listed -/
def Has (O : Ow) (l : List (Addr × OD)) : Prop := ∀ x ∈ l, O x.1 = some x.2
theorem Has.get {O : Ow} {l : List (Addr × OD)} {a : Addr} {v : OD} (h : Has O l) (m : (a, v) ∈ l) : O a = some v := h _ m
theorem has_nil {O : Ow} : Has O [] := fun x h => by cases h
theorem has_put {O : Ow} {l : List (Addr × OD)} {a : Addr} {v : OD} (h : Has O l) (n : O a = none) : Has (put O a v) ((a, v) :: l) := fun x hx => by
  rcases List.mem_cons.mp
      hx with rfl | hx
  · exact put_same
  · have e := h x hx
    rw [put_ne (fun z => by rw [z, n] at e; cases e)]
    exact e
theorem has_set {O : Ow} {l : List (Addr × OD)} {p : Addr} {ds es : List D} (h : Has O (l ++ [(p, .lst ds)])) (hx : ∀ x ∈ l, ∃ C d, x.2 = .xcp C d) : Has (put O p (.lst es)) (l ++ [(p, .lst es)]) := fun x hm => by
  rcases List.mem_append.mp
      hm with hm | hm
  · obtain ⟨C, d, e⟩ := hx x hm
    have g := h x (List.mem_append_left _ hm)
    have g2 : O p = some (.lst ds) := h (p, .lst ds) (List.mem_append_right _ List.mem_cons_self)
    rw [put_ne (fun z => by rw [z, g2, e] at g; cases g)]
    exact g
  · rw [List.mem_singleton.mp
        hm]
    exact put_same
section
variable {X : Cx} {Γ : Sg} {O : Ow} {k : KD}
theorem we_mkH {x f : Str} {C : Addr} {j : Nat} {e : Expr} {p cpos : Pos} (F : KxG X x C f) (hr : Room (j + 1) X.A) (he : starEach [e] X.env = (false, eval e X.env) :: starEach [] X.env) (hpl : (backTo cpos (starEach [] X.env)).any (·.1) = false)
    (h : WE X e Γ O fun d O1 => ∃ l, Has O1 l ∧ ∀ a dd O2, Has O2 ((a, .xcp C (some dd)) :: l) → k (.exc a dd [(f, d)]) O2) : WE X (.Call (.Name x p) [e] [] cpos) Γ O k :=
  we_mkG F hr he hpl (h.imp fun d O1 ⟨l, hl, z⟩ a dd n => z a dd _ (has_put hl n))
theorem we_mk2H {x f g : Str} {C : Addr} {j : Nat} {e e2 : Expr} {p cpos : Pos} (F : Kx2 X x C f g j) (hr : Room (j + 1) X.A) (he : starEach [e, e2] X.env = (false, eval e X.env) :: starEach [e2] X.env) (hpl : (backTo cpos (starEach [e2] X.env)).any (·.1) = false)
    (h : WE X e Γ O fun d O1 => WE X e2 Γ O1 fun d2 O2 => ∃ l, Has O2 l ∧ ∀ a dd O3, Has O3 ((a, .xcp C (some dd)) :: l) → k (.exc a dd [(g, d2), (f, d)]) O3) (he2 : starEach [e2] X.env = [(false, eval e2 X.env)]) : WE X (.Call (.Name x p) [e, e2] [] cpos) Γ O k :=
  we_mk2 F hr he hpl (wa_cons he (h.imp fun d O1 z => wa_cons he2 (z.imp fun d2 O2 ⟨l, hl, z⟩ => wa_nil ⟨d, d2, rfl, fun a dd n => z a dd _ (has_put hl n)⟩)))
theorem we_mk0H {x : Str} {C : Addr} {p cpos : Pos} (F : Ke X x C) (h : ∃ l, Has O l ∧ ∀ a O2, Has O2 ((a, .xcp C none) :: l) → k (.own a) O2) : WE X (.Call (.Name x p) [] [] cpos) Γ O k := by
  obtain ⟨l, hl, z⟩ := h
  exact we_mk0 F fun a n => z a _ (has_put hl n)
theorem fzEs_same : ∀ ds : List D, FzEs O ds ds
  | [] => .nil
  | d :: ds => .cons (.same d) (fzEs_same ds)
end
section
variable {X : Cx} {Γ : Sg} {O : Ow} {De : DE}
theorem ws_par3 {x y z : Str} {i j l : Nat} {a b c : Expr} {px py pz pt kt k2 pt2 pos} (hc : X.calm = true) (vx : Vs X x i) (vy : Vs X y j) (vz : Vs X z l) (hij : i ≠ j) (hil : i ≠ l) (hjl : j ≠ l)
    (hx : X.env.scope.names.lookup x = some .local) (hy : X.env.scope.names.lookup y = some .local) (hz : X.env.scope.names.lookup z = some .local)
    (hw : swappedStores [.Tuple [.Name x px, .Name y py,
        .Name z pz] kt pt] (.Tuple [a, b, c] k2 pt2) X.env = pure (some [x, y, z]))
    (hs : swapsWithSole [.Tuple [.Name x px, .Name y py, .Name z pz] kt pt] (.Tuple [a, b, c] k2 pt2) pos.line X.env = pure false)
    (h : WA X [a, b, c] Γ O fun ds O1 => ∃ d e g, ds = [d, e, g] ∧ De.nx (((Γ.set i (some d)).set j (some e)).set l (some g)) O1) : WS X (.Assign [.Tuple [.Name x px, .Name y py, .Name z pz] kt pt] (.Tuple [a, b, c] k2 pt2) pos) Γ O De := fun σ L H hss hr E q => by
  refine toS (ps_par3 hc vx.nd vx.hN vy.hN vz.hN hij hil hjl hx hy hz (pau [a, b, c]) hw hs) ?_
  refine h σ L H hss hr _ fun vs ds O1 L1 H1 h1 e1 i1 r1 => ?_
  obtain ⟨d, e, g, z, h1⟩ := h1
  subst z
  cases i1 with
  | cons a1 t =>
    cases t with
    | cons a2 t =>
      cases t with
      | cons a3 t =>
        cases t
        exact ⟨_, _, _, rfl, q.nx _ _ _ _ _ h1 e1 ((((hss.mono e1).set a1 i).set a2 j).set a3 l) r1⟩
theorem par3_i {d e g : D} {φ : D → D → D → Prop} (h : φ d e g) : ∃ d' e' g', [d, e, g] = [d', e', g'] ∧ φ d' e' g' := ⟨d, e, g, rfl, h⟩
end
end DL
/-! DL, part d: an exception that leaves a comprehension -/
namespace DL
open L2 PySem
open PySem.Spec PyProof.Rows
section
variable {B B' h h' : Heap} {l : List Env} {a L C : Addr} {Z : Obj → Prop} {m m' : Str → Option Value}
theorem held_sub (hs : ∀ b o, B'.get? b = some o → B.get? b = some o) (x : HandSPX.HeldZ B l a Z L h) : HandSPX.HeldZ B' l a Z L h := by
  have nn : ∀ b, B.get? b = none → B'.get? b = none := fun b e => by
    cases q : B'.get? b with
    | none => rfl
    | some o => rw [hs b o q] at e; cases e
  obtain ⟨x1, x2, x3, oe, vs, T, oT, ts, he, hz, hd, h1, hnT, r⟩ := x
  exact ⟨fun b o e => x1 b o (hs b o e), nn _ x2, funFrames_none x3 fun K hK => nn K (x3.mem hK).1, oe, vs, T, oT, ts, he, hz, hd, h1, nn _ hnT, r⟩
theorem ns_nofields (hn : h.Ns C m) {b : Addr} {o : Obj} {vs : Array Value} (e : h.get? b = some o) (hd : o.data = .fields vs) : b ≠ C := fun z => by
  obtain ⟨o', es, ep, e1, e2, _⟩ := hn
  rw [z, e1] at e
  cases e
  rw [hd] at e2
  cases e2
theorem held_but (x : HandSPX.HeldZ B l a Z L h) (hC : B.get? C = none) (hn : h.Ns C m) (hn' : h'.Ns C m') (sb : Heap.SameBut C h h') : HandSPX.HeldZ B l a Z L h' := by
  obtain ⟨x1, x2, x3, oe, vs, T, oT, ts, he, hz, hd, h1, hnT, hTe, hT, hdT, h3⟩ := x
  exact ⟨fun b o e => (sb.2 b fun z => by rw [z, hC] at e; cases e).trans (x1 b o e), x2, Heap.FunFrames.sameBut sb hn' x3, oe, vs, T, oT, ts, (sb.2 a (ns_nofields hn he hd)).trans he, hz, hd, h1, hnT, hTe, (sb.2 T (ns_nofields hn hT hdT)).trans hT, hdT, h3⟩
end
theorem fly_comp {X : Cx} {W : WX} {pins pins' : List (Addr × Obj)} {σ σ' : L2.St} {H3 H' : Hp} {s3 s' s'' : Shared} {scope : Scope} {ce : Env} {fp : List Addr} {E : XK} {u : Value} {xe1 : Value → Shared → Prop} (hs : X.stack = X.env :: X.outer) (hf : X.env.frame = some X.env.locals) (tk : Takes X W)
    (I3 : L2.Inv X pins σ H3 s3) (hcf : ce.frame = X.env.frame) (hce : ce.locals = s3.heap.objs.size) (f3 : ∀ b ∈ fp, FpOk X pins H3 b) (I' : L2.Inv { X.blk s3 H3 scope ce fp with xe := xe1 } pins' σ' H' s') (c : L2.CX X.prog X.w X.stack H' s' E u s'') (hW : ∀ cls d H, E cls d H → W cls d σ H) :
    notedBy (model X.prog X.w) X.A ce (CompFails (model X.prog X.w) X.A X.xe ce) u s'' := by
  have c2 := c
  obtain ⟨a, B, sI, pI, σI, HI, cls, d, rfl, II, nb, up, sky, na, os, ag, w⟩ := XE.of_call (X := { X.blk s3 H3 scope ce fp with xe := xe1 }) (W := fun cls d _ H => W cls d σ H) I' hW c
  have fl : HandSPX.FlyingZ B X.stack a (Zc cls d) s''.heap := by
    obtain ⟨a0, B0, H0, cls0, d0, e0, fl0, _⟩ := c2
    cases e0
    obtain ⟨_, _, _, oe0, vs0, T0, oT0, ts0, he0, _, hd0, h10, _, _, hT0, hdT0, h30⟩ := fl0
    rcases sky with ⟨_, _, _, oe, vs, he, _, hd, h1⟩ | fl | ⟨_, _, _, oe, vs, T, oT, ts, he, _, hd, h1, _, _, hT, hdT, h3⟩
    · rw [he0] at he
      cases he
      rw [hd0] at hd
      cases hd
      rw [h10] at h1
      cases h1
    · exact fl
    · rw [he0] at he
      cases he
      rw [hd0] at hd
      cases hd
      rw [h10] at h1
      cases h1
      rw [hT0] at hT
      cases hT
      rw [hdT0] at hdT
      cases hdT
      rw [h30] at h3
      cases h3
  have hfr : X.A.frames = some (X.env :: X.outer) := by rw [I3.ok.frames, hs]
  rw [hs] at fl
  show wpAny _ _ (noteFrame (.ref a) ce) _ _ s''
  rw [noteFrame_env _ hcf]
  refine HandSPX.looks_onZ Zc.steady hfr hf fl fun h1 hh1 up1 => ?_
  obtain ⟨m, hnI, _⟩ := II.loc
  have hnI : sI.heap.Ns ce.locals m := hnI
  have hn1 : h1.Ns ce.locals m := (hnI.upToSlots fun b o e hnf => up b o e hnf).upToSlots fun b o e hnf => up1 b o e hnf
  refine ⟨m, hn1, fun h2 m2 hn2 sb => ?_⟩
  obtain ⟨B', b1, b2⟩ := restrict B fun b => decide (b ≠ ce.locals)
  have bs : ∀ b o, B'.get? b = some o → b ≠ ce.locals ∧ B.get? b = some o := fun b o e => by
    by_cases hb : b = ce.locals
    · rw [b2 b (by simp [hb])] at e
      cases e
    · exact ⟨hb, (b1 b (decide_eq_true hb)).symm.trans e⟩
  have bC : B'.get? ce.locals = none := b2 _ (by simp)
  have hh2 := held_but (held_sub (fun b o e => (bs b o e).2) hh1) bC hn1 hn2 sb
  obtain ⟨oe, vs, T, oT, ts, he, hz, hd, hv1, _⟩ := hh2.2.2.2
  unfold PySem.passOn
  refine wpAny_bind (wpAny_field he hd hv1 ?_)
  rw [if_neg (show ¬ ((Value.ref T == Value.none) = true) from by simp), hcf, hf]
  refine wpAny_bind (HandSPX.setFlight_onZ hh2 fun h3 hh3 up3 => ?_)
  refine wpAny_throw ?_
  obtain ⟨G, g1, g2⟩ := restrict sI.heap fun b => decide (b ≠ ce.locals)
  have gs : ∀ b o, G.get? b = some o → b ≠ ce.locals ∧ sI.heap.get? b = some o := fun b o e => by
    by_cases hb : b = ce.locals
    · rw [g2 b (by simp [hb])] at e
      cases e
    · exact ⟨hb, (g1 b (decide_eq_true hb)).symm.trans e⟩
  have J0 : L2.Inv X pins σ HI sI := I3.call' (ch := fp) II.os II.base II.hok II.bare fun b hb => ⟨(f3 b hb).2.2.2.1, (f3 b hb).2.1, (f3 b hb).2.2.2.2.1, (f3 b hb).2.2.2.2.2⟩
  have nC : HI ce.locals = none := II.free
  obtain ⟨p1, p2, p3, p4, p5, p6⟩ := I3.fpOk (H' := HI) (b := ce.locals) (by rw [hce]; exact Nat.le_refl _) nC
  have J : L2.Inv X pins σ HI { sI with heap := G } := J0.turned (t' := sI.toks) (fun b o hb e => (g1 b (decide_eq_true hb)).trans e) p1 p2 p4 p5 p6
  refine tk _ _ ⟨a, B', { sI with heap := G }, pins, σ, HI, cls, d, rfl, J, fun b o e hb => ?_, fun b o e hnf => ?_, ?_, na, os, ag, w⟩
  · obtain ⟨n1, e1⟩ := gs b o e
    exact (b1 b (decide_eq_true n1)).trans (nb b o e1 hb)
  · obtain ⟨n1, e1⟩ := gs b o e
    obtain ⟨sl1, q1⟩ := up b o e1 hnf
    obtain ⟨sl2, q2⟩ := up1 b _ q1 hnf
    obtain ⟨sl3, q3⟩ := up3 b _ ((sb.2 b n1).trans q2) hnf
    exact ⟨sl3, q3⟩
  · rw [hs]
    exact .inr (.inr hh3)
/-- the block of a comprehension, an exception of whose turns goes to xe -/
abbrev blkX (X : Cx) (s : Shared) (H : Hp) (scope : Scope) (ce : Env) (fp : List Addr) (xe : Value → Shared → Prop) : Cx := { X.blk s H scope ce fp with xe := xe }
/-- what a call in a turn lets out is taken -/
def TkC (Y : Cx) (st : List Env) (σ : L2.St) (W : WX) : Prop := ∀ (pins' : List (Addr × Obj)) (σ' : L2.St) (H' : Hp) (s' : Shared) (E : XK) (u : Value) (s'' : Shared), L2.Inv Y pins' σ' H' s' → L2.CX Y.prog Y.w st H' s' E u s'' → (∀ cls d H, E cls d H → W cls d σ H) → Y.xe u s''
theorem inv_xe {X : Cx} {pins : List (Addr × Obj)} {σ : L2.St} {H : Hp} {s : Shared} (I : L2.Inv X pins σ H s) (xe : Value → Shared → Prop) : L2.Inv { X with xe := xe } pins σ H s :=
  have ok := I.ok
  ⟨⟨ok.mod, ok.kind, ok.glob, ok.blt, ok.above, ok.inj, ok.has, ok.cab, ok.hd, ok.frames, ok.stk, ok.exf, ok.bs, ok.bsz, ok.noex, ok.exfs, ok.funs, ok.frf⟩, I.os, I.bare, I.base, I.loc, I.cell, I.free, I.freeC, I.pin, I.hok, I.len⟩
section
variable {X : Cx}
theorem lc_coreX {W : WX} {pins : List (Addr × Obj)} {s : Shared} {σ : L2.St} {H : Hp} {Q : VK} {elt tg iter : Expr} {ifs : List Expr} {scope : Scope} {own : List (Str × Nat)} {pos pos' : Pos} {wi : TI} {g : TG} {tt : TT} {te : TE} {use : Option (Value → Sem Unit)} {Qf : Value → Shared → Prop}
    (hst : X.stack = X.env :: X.outer) (hf : X.env.frame = some X.env.locals) (tk : Takes X W) (hc : X.calm = true) (hN : X.N.Nodup) (I : L2.Inv X pins σ H s) (hi : PI X tg iter wi) (ok : BlkOk X.N X.env.scope scope own)
    (hg : ∀ (s : Shared) (H : Hp) (C : Addr) (cl : List (Str × Addr)) (fp : List Addr) (xe : Value → Shared → Prop), PG (blkX X s H scope (compEnvC scope cl C X.env) fp xe) tg g)
    (ht : ∀ (s : Shared) (H : Hp) (C : Addr) (cl : List (Str × Addr)) (fp : List Addr) (xe : Value → Shared → Prop), PTs (blkX X s H scope (compEnvC scope cl C X.env) fp xe) ifs tt)
    (he : ∀ (s : Shared) (H : Hp) (C : Addr) (cl : List (Str × Addr)) (fp : List Addr) (xe : Value → Shared → Prop), TkC (blkX X s H scope (compEnvC scope cl C X.env) fp xe) X.stack σ W → PE (blkX X s H scope (compEnvC scope cl C X.env) fp xe) elt te)
    (hs : ∀ x, foldedSetIterable iter X.env x = pure x) (h : tLc wi g tt te (own.map (·.2)) σ H Q)
    (hRR : ∀ D ce s' m H', L2.Inv X pins σ H' s' → Q (.ref D) H' → s'.heap.Ns ce.locals m → FpOk X pins H' ce.locals → compEnds (model X.prog X.w) X.A X.xe use Qf (.ref D) ce (.ok .next) s') :
    wpAny (model X.prog X.w) X.A (comprehension (.ListComp elt [⟨tg, iter, ifs,
        0⟩] scope pos) scope X.env pos' (newList []) false (eval iter X.env) use) Qf X.xe s := by
  have cap : ∀ y ∈ scope.names, y.2 = .free → ∃ c, X.env.cells.lookup y.1 = some c := fun y hy e => (ok.free y hy e).elim (fun k => I.ok.has _ (.inl k)) (fun k => I.ok.has _ (.inr k))
  refine comprehension_at (use := use) rfl hs (closure_ok cap) ok.kind (fun y hy e => by rw [ok.uniq y hy, e]) (thn (hi.run pins s σ H _ I h) fun xv s1 hx => thn hx fun itv s2 h2 => ?_)
  obtain ⟨it, fp, tn, J, H2,
      e, I2, T, st2, f2, q⟩ := h2
  subst e
  refine wpAny_newObj_type (newEnv_comp
      ?_) (by show 0 ≤ sizeLine; decide)
  generalize hD :
      s2.heap.objs.size = D
  have hDn : H2 D = none := I2.hok.fresh (Nat.le_of_eq
      hD)
  obtain ⟨Wt, ⟨m0, w0⟩, turn⟩ := q D hDn
  generalize hs3 : ({ s2 with heap := s2.heap.push { cls := .type "list", data := .seq ([] : List Value).toArray } }
      : Shared) = s3
  have h3 : s3.heap = s2.heap.push { cls := .type "list", data := .seq ([] : List Value).toArray } := by rw [←
      hs3]
  have kp3 : ∀ b o, s2.heap.get? b = some o → s3.heap.get? b = some o := fun b o e => by
    rw [h3]
    exact Heap.get?_push_of_some
        _ e
  have I3 : L2.Inv X pins σ (upd H2 D (.lst [])) s3 := by
    have z := I2.laid (t' := s2.toks) (h' := s2.heap.push { cls := .type "list", data := .seq ([] : List Value).toArray }) (a := D) (o := .lst []) (fun b o e => Heap.get?_push_of_some _ e) (Nat.le_of_eq hD) ⟨Nat.zero_le _, [], 0, .nil, by rw [← hD]; exact Heap.get?_push_size _ rfl⟩
    rw [← hs3]
    exact z
  have f3 : ∀ b ∈ fp, FpOk X pins (upd H2 D (.lst
      [])) b ∧ b < s3.heap.objs.size := fun b hb => by
    obtain ⟨o, e,
        _⟩ := T.obj _ _ st2 b hb
    have lt := Heap.lt_size e
    have ne : b ≠ D := by rw [← hD]; exact Nat.ne_of_lt lt
    refine ⟨⟨?_, (f2 b hb).2⟩, by rw [h3, Heap.size_push]; exact Nat.lt_succ_of_lt lt⟩
    rw [upd_ne ne]
    exact (f2 b hb).1
  have st3 : tn 0 s3.heap := T.keep _ _ _ st2 fun b _ o e => kp3 b o e
  have I4 := block_start
      I3 ok hN f3
  generalize hH3 : upd H2 D (.lst []) = H3 at I3 I4 f3 w0
  have pg := hg s3 H3 s3.heap.objs.size (cellsFrom (s3.heap.objs.size + 1) scope.names (cloFrom X.env.cells scope.names [])) fp
  have pt := ht s3 H3 s3.heap.objs.size (cellsFrom (s3.heap.objs.size + 1) scope.names (cloFrom X.env.cells scope.names [])) fp
  have pe := he s3 H3 s3.heap.objs.size (cellsFrom (s3.heap.objs.size + 1) scope.names (cloFrom X.env.cells scope.names [])) fp
  have cL : (compEnvC scope (cellsFrom (s3.heap.objs.size + 1) scope.names (cloFrom X.env.cells scope.names [])) s3.heap.objs.size X.env).locals = s3.heap.objs.size := rfl
  have cF : (compEnvC scope (cellsFrom (s3.heap.objs.size + 1) scope.names (cloFrom X.env.cells scope.names [])) s3.heap.objs.size X.env).frame = X.env.frame := rfl
  show codeAny _ _ (.compStart (.ListComp elt [⟨tg, iter, ifs, 0⟩] scope pos) 0 (.ref it) (.ref D) (compEnvC scope (cellsFrom (s3.heap.objs.size + 1) scope.names (cloFrom X.env.cells scope.names [])) s3.heap.objs.size X.env))
    (compEnds (model X.prog X.w) X.A X.xe use Qf (.ref D) (compEnvC scope (cellsFrom (s3.heap.objs.size + 1) scope.names (cloFrom X.env.cells scope.names [])) s3.heap.objs.size X.env)) { s3 with heap := pushCells (s3.heap.push { cls := .type "dict", data := .dict #[] }) scope.names }
  generalize compEnvC scope (cellsFrom (s3.heap.objs.size + 1) scope.names (cloFrom X.env.cells scope.names [])) s3.heap.objs.size X.env = ce at I4 pg pt pe cL cF ⊢
  have toR : ∀ x s', CompFails (model X.prog X.w) X.A X.xe ce x s' → compEnds (model X.prog X.w) X.A X.xe use Qf (.ref D) ce (.error x) s' := fun x s' z => by cases use <;> exact z
  generalize hxe : notedBy (model X.prog X.w) X.A ce (fun e s' => compEnds (model X.prog X.w) X.A X.xe use Qf (.ref D) ce (.error e) s') = xeC
  have pg := pg xeC
  have pt := pt xeC
  have pe := pe xeC fun pins' σ' H' s' E u s'' I' c hW => by
    show xeC u s''
    rw [← hxe]
    exact wpAny_mono (fly_comp hst hf tk I3 cF cL (fun b hb => (f3 b hb).1) I' c hW) (fun _ s1 z => toR _ _ z) fun x s1 z => toR _ _ z
  have I5 : L2.Inv (blkX X s3 H3 scope ce fp xeC) [] (wipe σ (own.map (·.2))) H3 { s3 with heap := pushCells (s3.heap.push { cls := .type "dict", data := .dict #[] }) scope.names } := inv_xe I4 xeC
  have st4 : tn 0 (pushCells (s3.heap.push { cls := .type "dict", data := .dict #[] }) scope.names) := T.keep _ _ _ st3 fun b _ o e => pushCells_keeps _ _ _ _ (Heap.get?_push_of_some _ e)
  have nfp : ∀ b ∈ fp, H3 b = none := fun b hb => (f3 b hb).1.1
  have stat : ∀ {σ' : L2.St} {H' : Hp} {s' : Shared}, L2.Inv (blkX X s3 H3 scope ce fp xeC) [] σ' H' s' → (∀ b ∈ fp, H' b = none) → ∀ b ∈ fp, FpOk (blkX X s3 H3 scope ce fp xeC) [] H' b := fun {σ' H' s'} J hn b hb =>
    ⟨hn b hb, (J.ok.exf b hb).1, J.ok.exfs b hb, .inl hb, fun x c e => (J.ok.exf b hb).2 x c e, fun p hp => absurd (show p ∈ ([] : List (Addr × Obj)) ++ [] from hp) (by simp)⟩
  have loop : codeAny (model X.prog X.w) X.A (.compLoop (.ListComp elt [⟨tg, iter, ifs, 0⟩] scope pos) 0 (.ref it) (.ref D) ce) (compEnds (model X.prog X.w) X.A X.xe use Qf (.ref D) ce) { s3 with heap := pushCells (s3.heap.push { cls := .type "dict", data := .dict #[] }) scope.names } := by
    refine compLoop_any (fun n s' => ∃ i H', L2.Inv (blkX X s3 H3 scope ce fp xeC) [] (wipe σ (own.map (·.2))) H' s' ∧ tn i s'.heap ∧ (∀ b ∈ fp, H' b = none) ∧ Wt i n H') ?_ m0 ⟨0, H3, I5, st4, nfp, w0⟩
    rintro n s5 ⟨i, H5, J5, st5, n5, w5⟩
    rw [hxe]
    rcases turn i n H5 w5 with ⟨stop,
        qq⟩ | ⟨go, Nx, hNx, step⟩
    · refine thnF (T.done (blkX X s3 H3 scope ce fp xeC) rfl rfl rfl hc i [] s5 _ H5 (fun _ _ => False) J5 (stat J5 n5) st5 stop) fun r s6 ⟨hr, J6⟩ => ?_
      subst hr
      have I7 : L2.Inv X pins σ H5 s6 := I3.call' (ch := fp) J6.os J6.base J6.hok J6.bare fun b hb => ⟨(f3 b hb).1.2.2.2.1, (f3 b hb).1.2.1, (f3 b hb).1.2.2.2.2.1, (f3 b hb).1.2.2.2.2.2⟩
      obtain ⟨m, hn, _⟩ := J6.loc
      have nC : H5 ce.locals = none := J6.free
      exact hRR D ce s6 m H5 I7 qq hn (I3.fpOk (by rw [cL]; exact Nat.le_refl _) nC)
    · refine thnF (T.item (blkX X s3 H3 scope ce fp xeC) rfl rfl rfl hc i [] s5 _ H5 (fun _ _ => False) J5 (stat J5 n5) st5 go) fun r s6 ⟨u, hr, h6⟩ => ?_
      subst hr
      refine thnF h6 fun _ s7 ⟨x, H7, J7, r7, y7, st7, n7⟩ => ?_
      have J7' := J7.pinned (stat J7 n7) (T.obj _ _ st7)
      refine thn (pg.run _ s7 _ H7 x u _ J7' r7 (step x H7 y7)) fun _ s8 ⟨σ8, H8, J8, hw8, q8⟩ => ?_
      refine thn (pt.run _ s8 σ8 H8 _ J8 q8) fun b s9 ⟨H9, J9, q9⟩ => ?_
      have fin : ∀ {s' : Shared} {H' : Hp}, L2.Inv (blkX X s3 H3 scope ce fp xeC) ([] ++ pinsAt fp s7.heap) σ8 H' s' → Nx H' → ∃ m, m < n ∧ ∃ i H', L2.Inv (blkX X s3 H3 scope ce fp xeC) [] (wipe σ (own.map (·.2))) H' s' ∧ tn i s'.heap ∧ (∀ b ∈ fp, H' b = none) ∧ Wt i m H' := fun {s' H'} J nx => by
        obtain ⟨m', hm,
            w'⟩ := hNx H' nx
        have pin' : ∀ b ∈ fp, ∀ o, s7.heap.get? b = some o →
            s'.heap.get? b = some o ∧ H' b = none := fun b hb o e =>
          let z := J.pin (b, o) (List.mem_append_right _ (List.mem_append_right _ (mem_pinsAt hb e)))
          ⟨z.1, z.2.1⟩
        refine ⟨m', hm, i + 1, H', (J.unpinned (pins := [])).weak (by rw [← hw8, wipe_length]) (fun j v e => ?_), T.keep _ _ _ st7 fun b hb o e => (pin' b hb o e).1, fun b hb => ?_, w'⟩
        · rw [← hw8] at e
          exact (wipe_some e).1
        · obtain ⟨o, e,
              _⟩ := T.obj _ _ st7 b hb
          exact (pin' b hb o e).2
      cases b with
      | false =>
        simp only [Bool.false_eq_true,
            if_false] at q9 ⊢
        exact fin J9 q9
      | true =>
        simp only [if_true] at q9 ⊢
        refine thn (pe.run _ s9 σ8 H9 _ J9 q9) fun z s10 ⟨yv, H10, J10, r10, acc, hD10, hz10, nx⟩ => ?_
        exact app_ok (X := blkX X s3 H3 scope ce fp xeC) J10 hD10 hz10 r10 fun s11 J11 => fin J11 nx
  exact codeAny_compStart_list loop (T.self
      X.A 0 _ _ _ st4 loop)
end
/-! ### comprehensions whose turns may raise, over data -/
/-- what a call in a turn lets out: kc -/
structure TxC (Y : Cx) (Lc : Lg) (kc : Addr → List (Str × D) → Ow → Prop) : Prop where
  ex : ∃ (σ : L2.St) (W : WX), TkC Y Y.stack σ W ∧ ∀ (C d : Addr) (fs : List (Str × V)) (fds : List (Str × D)) (O : Ow) (L : Lg) (H : Hp), kc C fds O → Lc.le L → H d = some (.xd fs) → fs.map (·.1) = fds.map (·.1) → IsL Y.K L (fs.map (·.2)) (fds.map (·.2)) → R Y.K L O H → W (.ref C) (some d) σ H
abbrev Bx2 (X : Cx) (scope : Scope) (s : Shared) (H : Hp) (C : Addr) (cl : List (Str × Addr)) (fp : List Addr) (xe : Value → Shared → Prop) : Cx := blkX X s H scope (compEnvC scope cl C X.env) fp xe
/-- an element that may raise -/
def BEX (X : Cx) (scope : Scope) (kc : Addr → List (Str × D) → Ow → Prop) (e : Expr) (Γ : Sg) (O : Ow) (k : KD) : Prop := ∀ s H C cl fp xe Lc, TxC (Bx2 X scope s H C cl fp xe) Lc kc → WEx (Bx2 X scope s H C cl fp xe) Lc e Γ O k
def uBEX (X : Cx) (scope : Scope) (σ0 : L2.St) (W : WX) (e : Expr) : TE := fun σ H Q => ∀ s H0 C cl fp xe, TkC (Bx2 X scope s H0 C cl fp xe) X.stack σ0 W → uE (Bx2 X scope s H0 C cl fp xe) e σ H Q
def LcX (X : Cx) (elt : Expr) (scope : Scope) (kc : Addr → List (Str × D) → Ow → Prop) (vs : List Nat) (t : Tg) (Γ : Sg) (ds : List D) (O1 : Ow) (fin : List D → Prop) : Prop := ∃ P : Nat → List D → Prop, P 0 [] ∧
  (∀ i d acc, ds[i]? = some d → P i acc → ∀ O2, Agr O1 O2 → (∀ O3, DL.Sub O3 O1 → DL.Sub O3 O2) → ∃ Γ2, tgD t d (wipeD Γ vs) = some Γ2 ∧ BEX X scope kc elt Γ2 O2 fun y O4 => O4 = O2 ∧ acc.length < sizeLine ∧ P (i + 1) (acc ++ [y])) ∧ ∀ acc, P ds.length acc → fin acc
section
variable {X : Cx} {L0 : Lg} {kg : KG} {Γ : Sg} {O : Ow} {k : KD} {tg : Expr} {κ : List D → Ow → Prop}
theorem lc_runX {W : WX} {kc : Addr → List (Str × D) → Ow → Prop} {elt : Expr} {scope : Scope} {vs : List Nat} {t : Tg} {wi : TI} (hi : ∀ i ∈ tgIx t, i ∈ vs)
    (hit : ∀ σ L H, Sl X.K L σ Γ → R X.K L O H → ∀ RR : It → Hp → Prop, (∀ J (ds : List D) (G : Hp → Prop) (Y : Nat → Hp → V → Hp → Prop) O' L' H', κ ds O' → L.le L' → Walk J ds.length G Y → (∀ L2 O2 H2, L'.le L2 → R X.K L2 O2 H2 → G H2) →
      (∀ i x L2 O2 H2 H3, i < ds.length → L'.le L2 → R X.K L2 O2 H2 → Y i H2 x H3 → ∃ L3 d, L2.le L3 ∧ R X.K L3 O2 H3 ∧ ds[i]? = some d ∧ Is X.K L3 x d) → R X.K L' O' H' → RR J H') → wi σ H RR)
    {kp : List D → Addr → Ow → Prop} (hk : ∀ ds O1, κ ds O1 → LcX X elt scope kc vs t Γ ds O1 fun acc => ∀ p, O1 p = none → kp acc p (put O1 p (.lst acc)))
    {σ : L2.St} {L : Lg} {H : Hp} (hW : ∀ (C d : Addr) (fs : List (Str × V)) (fds : List (Str × D)) (O : Ow) (L2 : Lg) (H : Hp), kc C fds O → L.le L2 → H d = some (.xd fs) → fs.map (·.1) = fds.map (·.1) → IsL X.K L2 (fs.map (·.2)) (fds.map (·.2)) → R X.K L2 O H → W (.ref C) (some d) σ H)
    (hs : Sl X.K L σ Γ) (hr : R X.K L O H) {Q : VK} (q : ∀ acc p O' L' H', kp acc p O' → O' p = some (.lst acc) → L.le L' → R X.K L' O' H' → Q (.ref p) H') : tLc wi (tgG X.K t) tYes (uBEX X scope σ W elt) vs σ H Q := by
  refine hit σ L H hs hr _ fun J ds G Y O1 L1 H1 h1 e1 w hG hY r1 => fun Dl hD => ?_
  obtain ⟨P, p0, step, fin⟩ := hk ds O1 h1
  obtain ⟨f1, f2, f3⟩ := r1.free hD
  have hs1 := sl_wipe (hs.mono e1) vs
  refine lc_it w (fun i H' => ∃ acc L', P i acc ∧ L1.le L' ∧ R X.K L' (put O1 Dl (.lst acc)) H') ⟨[], L1, p0, .refl L1, r1.newLO hD .nil⟩ (fun i H' hi ⟨acc, L', _, le, r⟩ => hG L' _ H' le r) ?_ ?_
  · rintro i x H2 H3 hlt ⟨acc, L', hP, le, r'⟩ hy
    obtain ⟨L3, d, le3, r3, hd, is⟩ := hY i x L' _ H2 H3 hlt le r' hy
    have agr : Agr O1 (put O1 Dl (.lst acc)) := fun a od h => by
      rw [put_ne (fun e => by rw [e, f2] at h; cases h)]; exact h
    obtain ⟨Γ2, hT, hb⟩ := step i d acc hd hP _ agr (fun O3 sb => fun a od e => agr a od (sb a od e))
    refine tg_run r3 vs t hi is (hs1.mono (le.trans le3)) hT _ fun σ2 s2 hw => ⟨hw.trans ?_, ?_⟩
    · clear hw s2
      have : ∀ us : List Nat, (∀ u ∈ us, u ∈ vs) → wipe (wipe σ us) vs = wipe σ vs := fun us => by
        induction us with
        | nil => intro _; rfl
        | cons u us ih =>
          intro hu
          show wipe ((wipe σ us).set u none) vs = wipe σ vs
          rw [wipe_set (hu u List.mem_cons_self)]
          exact ih fun z hz => hu z (List.mem_cons_of_mem _ hz)
      exact this vs fun _ h => h
    · intro s H0 C cl fp xe tkc
      refine hb s H0 C cl fp xe L ⟨σ, W, tkc, hW⟩ σ2 L3 H3 ((e1.trans le).trans le3) s2 r3 _ fun v y O5 L5 H5 h5 e5 i5 r5 => ?_
      obtain ⟨rfl, hz, hP'⟩ := h5
      obtain ⟨xs, g1, g2⟩ := own_lst r5 put_same
      refine ⟨xs, g1, by rw [g2.length]; exact hz, acc ++ [y], L5, hP', (le.trans le3).trans e5, ?_⟩
      have z := r5.change (od' := .lst (acc ++ [y])) put_same ⟨_, upd_same, g2.append (.cons i5 .nil)⟩
      rw [put_put] at z
      exact z
  · rintro H' ⟨acc, L', hP, le, r'⟩
    exact q acc Dl _ L' H' (fin acc hP Dl f2) put_same (e1.trans le) r'
/-- [elt for tg in iter], a turn of which may raise -/
theorem ex_lc {elt iter : Expr} {scope : Scope} {pos : Pos} (own : List (Str × Nat)) (t : Tg) (hst : X.stack = X.env :: X.outer) (hf : X.env.frame = some X.env.locals) (tx : Tx X L0 kg) (hc : X.calm = true) (hN : X.N.Nodup) (ok : blkC X.N X.env.scope scope own = true) (hfs : ∀ x, foldedSetIterable iter X.env x = pure x)
    (hg : ∀ (s : Shared) (H : Hp) (C : Addr) (cl : List (Str × Addr)) (fp : List Addr) (xe : Value → Shared → Prop), PG (Bx2 X scope s H C cl fp xe) tg (tgG X.K t)) (hi : ∀ i ∈ tgIx t, i ∈ own.map (·.2))
    (h : ItD X tg iter Γ O fun ds O1 => LcX X elt scope (fun C fds O' => ∃ O3, DL.Sub O3 O' ∧ kg C fds Γ O3) (own.map (·.2)) t Γ ds O1 fun acc => k (.lst acc) O1) : WEx X L0 (.ListComp elt [⟨tg, iter, [], 0⟩] scope pos) Γ O k := fun σ L H l0 hs hr Q q pins s I => by
  obtain ⟨W, tk, tw⟩ := tx.ex
  obtain ⟨wi, hpi, hit⟩ := h
  have hW : ∀ (C d : Addr) (fs : List (Str × V)) (fds : List (Str × D)) (O : Ow) (L2 : Lg) (H : Hp), (∃ O3, DL.Sub O3 O ∧ kg C fds Γ O3) → L.le L2 → H d = some (.xd fs) → fs.map (·.1) = fds.map (·.1) → IsL X.K L2 (fs.map (·.2)) (fds.map (·.2)) → R X.K L2 O H → W (.ref C) (some d) σ H := fun C d fs fds O L2 H ⟨O3, sb, hk⟩ le e1 e2 e3 r =>
    tw C d fs fds Γ O3 σ L2 H hk (l0.trans le) (hs.mono le) e1 e2 e3 (r.sub sb)
  have run := lc_runX (W := W) hi hit (kp := fun acc p O' => ∃ O1, O' = put O1 p (.lst acc) ∧ O1 p = none ∧ k (.lst acc) O1) (fun ds O1 z => by
    obtain ⟨P, p0, step, fin⟩ := z
    exact ⟨P, p0, step, fun acc hp p hn => ⟨O1, rfl, hn, fin acc hp⟩⟩) hW hs hr (Q := Q) fun acc p O' L' H' ⟨O1, e, hn, hk⟩ ho le r => by
      subst e
      obtain ⟨L2, le2, is, r2⟩ := r.freeze ho
      rw [del_put hn] at r2
      exact q _ _ _ _ _ hk (le.trans le2) is r2
  rw [eval_ListComp]
  refine lc_coreX hst hf tk hc hN I hpi (blkOk_by ok) hg (fun _ _ _ _ _ _ => pts_nil) (fun s H C cl fp xe tkc => ⟨fun pins s1 σ' H1 Q I h => h s H C cl fp xe tkc pins s1 I⟩) hfs run fun D ce s' m H' I' q hn f => ⟨m, hn, fun h'' sb => ?_⟩
  obtain ⟨f0, f1, f2,
      f3, f4, f5⟩ := f
  exact ⟨.ref D, H',
      I'.turned (t' := s'.toks) (fun b o hb e => (sb.2 b hb).trans e) f0 f1 f3 f4 f5, rfl, q⟩
end
/-! ### calls of defs that may raise -/
structure KnX (X : Cx) (x : Str) (j : Nat) (S : SpD) : Prop where
  ex : ∃ (f : Addr) (fd : FuncData) (ps : List Str), FnG X.prog X.w X.K X.mg X.base (L2.CX X.prog X.w) j f fd ps (spOf X.K S) ∧ X.mg x = some (.ref f) ∧ PySem.W.keepIn X.K (.ref f) = true ∧ Binds X.K fd ps []
  gl : Gl X x
  db : (x == ("__debug__" : Str)) = false
theorem PmX.kn {P : Program} {w : World} {K : PySem.W.Frag} {mg : Str → Option Value} {base : Heap} {x : Str} {j : Nat} {S : SpD} (F : PmX P w K mg base x j S) {X : Cx} (e1 : X.prog = P) (e2 : X.w = w) (e3 : X.K = K) (e4 : X.mg = mg) (e5 : X.base = base) (gl : Gl X x) (db : (x == ("__debug__" : Str)) = false) : KnX X x j S := by
  subst e1 e2 e3 e4 e5
  exact ⟨F.ex, gl, db⟩
section
variable {X : Cx} {L0 : Lg} {Γ : Sg} {O : Ow} {k : KD}
theorem ex_callE {x : Str} {j : Nat} {S : SpD} {e : Expr} {es : List Expr} {p pos : Pos} (kx : L2.St → KX) (F : KnX X x j S) (hgd : X.A.guards = some []) (hr : Room j X.A) (he : starEach (e :: es) X.env = (false, eval e X.env) :: starEach es X.env) (hpl : (backTo pos (starEach es X.env)).any (·.1) = false)
    (hx : ∀ (pins : List (Addr × Obj)) (σ : L2.St) (L : Lg) (H : Hp) (s : Shared) (u : Value) (s' : Shared), L2.Inv X pins σ H s → L0.le L → Sl X.K L σ Γ → L2.CX X.prog X.w X.stack H s (fun cls d H' => ∃ (C dd : Addr) (fs : List (Str × V)) (fds : List (Str × D)) (O' : Ow) (L' : Lg), cls = .ref C ∧ d = some dd ∧ kx σ C fds O' ∧ L.le L' ∧ H' dd = some (.xd fs) ∧ fs.map (·.1) = fds.map (·.1) ∧ IsL X.K L' (fs.map (·.2)) (fds.map (·.2)) ∧ R X.K L' O' H') u s' → X.xe u s')
    (h : WA X (e :: es) Γ O fun ds O1 => ∀ σ, S ds O1 k (kx σ)) : WEx X L0 (.Call (.Name x p) (e :: es) [] pos) Γ O k := fun σ L H l0 hs hR Q q pins s I => by
  obtain ⟨f, fd, ps, G, hm, hk, hb⟩ := F.ex
  refine wpAny_Call_Name_kw (ld_glob I F.gl hm ?_ F.db)
  refine PySem.W.callWith_K (h₀ := X.base) I.ok.mod.kin hk (thn (h σ L H hs hR (fun vs H1 => ∃ ds O1 L1, (∀ σ, S ds O1 k (kx σ)) ∧ L.le L1 ∧ IsL X.K L1 vs ds ∧ R X.K L1 O1 H1) (fun vs ds O1 L1 H1 a b c d => ⟨ds, O1, L1, a, b, c, d⟩) pos pins s I) fun us s1 ⟨vs, H1, I1, rv, ds, O1, L1, h1, le1, is1, r1⟩ => ⟨I1.kIn, ?_⟩) he hpl
  have hsp : spOf X.K S vs H1 Q (fun cls d H' => ∃ (C dd : Addr) (fs : List (Str × V)) (fds : List (Str × D)) (O' : Ow) (L' : Lg), cls = .ref C ∧ d = some dd ∧ kx σ C fds O' ∧ L.le L' ∧ H' dd = some (.xd fs) ∧ fs.map (·.1) = fds.map (·.1) ∧ IsL X.K L' (fs.map (·.2)) (fds.map (·.2)) ∧ R X.K L' O' H') :=
    ⟨ds, L1, O1, k, kx σ, is1, r1, h1 σ, q.le le1, fun C dd fs fds O' L' H' a le b c d r => ⟨C, dd, fs, fds, O', L', rfl, rfl, a, le1.trans le, b, c, d, r⟩⟩
  have hl : (us ++ []).length = ps.length := by rw [List.append_nil, ← rv.length]; exact G.ln _ _ _ _ hsp
  refine wpAny_call (codeAny_mono (G.go X.A X.stack s1 H1 ⟨us, []⟩ (us ++ []) vs Q _ hgd hr I1.env0 (hb s1 us I1.kIn hl) (by rw [List.append_nil]; exact rv) hsp) fun r s' hq => ?_)
  match r, hq with
  | .ok (.ret u), hq => exact I1.after hq
  | .ok .next, hq => exact hq.elim
  | .ok .brk, hq => exact hq.elim
  | .ok .cont, hq => exact hq.elim
  | .error u, hq => exact hx _ σ L H1 s1 u s' I1 l0 hs hq
/-- in a def -/
theorem ex_callN {kg : KG} {x : Str} {j : Nat} {S : SpD} {e : Expr} {es : List Expr} {p pos : Pos} (F : KnX X x j S) (tx : Tx X L0 kg) (hgd : X.A.guards = some []) (hr : Room j X.A) (he : starEach (e :: es) X.env = (false, eval e X.env) :: starEach es X.env) (hpl : (backTo pos (starEach es X.env)).any (·.1) = false)
    (h : WA X (e :: es) Γ O fun ds O1 => S ds O1 k fun Ce fds O2 => ∃ O3, DL.Sub O3 O2 ∧ kg Ce fds Γ O3) : WEx X L0 (.Call (.Name x p) (e :: es) [] pos) Γ O k := by
  obtain ⟨W, tk, tw⟩ := tx.ex
  refine ex_callE (fun _ Ce fds O2 => ∃ O3, DL.Sub O3 O2 ∧ kg Ce fds Γ O3) F hgd hr he hpl (fun pins σ L H s u s' I l0 hs c => ?_) (h.imp fun ds O1 z _ => z)
  exact tk _ _ (XE.of_call I (fun cls d H' ⟨C, dd, fs, fds, O', L', e1, e2, ⟨O3, sb, hk⟩, le, b, c, d', r⟩ => by
    subst e1 e2
    exact tw C dd fs fds Γ O3 σ L' H' hk (l0.trans le) (hs.mono le) b c d' (r.sub sb)) c)
/-- in a turn of a comprehension -/
theorem ex_callC {kc : Addr → List (Str × D) → Ow → Prop} {x : Str} {j : Nat} {S : SpD} {e : Expr} {es : List Expr} {p pos : Pos} (F : KnX X x j S) (tx : TxC X L0 kc) (hgd : X.A.guards = some []) (hr : Room j X.A) (he : starEach (e :: es) X.env = (false, eval e X.env) :: starEach es X.env) (hpl : (backTo pos (starEach es X.env)).any (·.1) = false)
    (h : WA X (e :: es) Γ O fun ds O1 => S ds O1 k kc) : WEx X L0 (.Call (.Name x p) (e :: es) [] pos) Γ O k := by
  obtain ⟨σ0, W, tk, tw⟩ := tx.ex
  refine ex_callE (fun _ => kc) F hgd hr he hpl (fun pins σ L H s u s' I l0 hs c => ?_) (h.imp fun ds O1 z _ => z)
  exact tk _ _ _ _ _ _ _ I c fun cls d H' ⟨C, dd, fs, fds, O', L', e1, e2, hk, le, b, c, d', r⟩ => by
    subst e1 e2
    exact tw C dd fs fds O' L' H' hk (l0.trans le) b c d' r
end
section
variable {X : Cx} {L0 : Lg} {kg : KG} {Γ : Sg} {O : Ow} {De : DE} {tg : Expr}
/-- y = [elt for tg in iter], a turn of which may raise -/
theorem xs_setLc {elt iter : Expr} {scope : Scope} {pos spos py : Pos} {y : Str} {j : Nat} (own : List (Str × Nat)) (t : Tg) (hst : X.stack = X.env :: X.outer) (hf : X.env.frame = some X.env.locals) (tx : Tx X L0 kg) (hc : X.calm = true) (hN : X.N.Nodup) (hy : X.N[j]? = some y) (hyl : X.env.scope.names.lookup y = some .local)
    (hsw : swapsWith (.ListComp elt [⟨tg, iter, [], 0⟩] scope pos) (some (.Name y py)) spos.line X.env = pure true) (ok : blkC X.N X.env.scope scope own = true) (hfs : ∀ x, foldedSetIterable iter X.env x = pure x)
    (hg : ∀ (s : Shared) (H : Hp) (C : Addr) (cl : List (Str × Addr)) (fp : List Addr) (xe : Value → Shared → Prop), PG (Bx2 X scope s H C cl fp xe) tg (tgG X.K t)) (hi : ∀ i ∈ tgIx t, i ∈ own.map (·.2))
    (h : ItD X tg iter Γ O fun ds O1 => LcX X elt scope (fun C fds O' => ∃ O3, DL.Sub O3 O' ∧ kg C fds Γ O3) (own.map (·.2)) t Γ ds O1 fun acc => De.nx (Γ.set j (some (.lst acc))) O1) : WSx X L0 (.Assign [.Name y py] (.ListComp elt [⟨tg, iter, [], 0⟩] scope pos) spos) Γ O De := fun σ L H l0 hs hr E q pins s I => by
  obtain ⟨W, tk, tw⟩ := tx.ex
  obtain ⟨wi, hpi, hit⟩ := h
  have hW : ∀ (C d : Addr) (fs : List (Str × V)) (fds : List (Str × D)) (O : Ow) (L2 : Lg) (H : Hp), (∃ O3, DL.Sub O3 O ∧ kg C fds Γ O3) → L.le L2 → H d = some (.xd fs) → fs.map (·.1) = fds.map (·.1) → IsL X.K L2 (fs.map (·.2)) (fds.map (·.2)) → R X.K L2 O H → W (.ref C) (some d) σ H := fun C d fs fds O L2 H ⟨O3, sb, hk⟩ le e1 e2 e3 r =>
    tw C d fs fds Γ O3 σ L2 H hk (l0.trans le) (hs.mono le) e1 e2 e3 (r.sub sb)
  have run := lc_runX (W := W) hi hit (kp := fun acc p O' => ∃ O1, O' = put O1 p (.lst acc) ∧ O1 p = none ∧ De.nx (Γ.set j (some (.lst acc))) O1) (fun ds O1 z => by
    obtain ⟨P, p0, step, fin⟩ := z
    exact ⟨P, p0, step, fun acc hp p hn => ⟨O1, rfl, hn, fin acc hp⟩⟩) hW hs hr (Q := fun x H1 => E.nx (σ.set j (some x)) H1) fun acc p O' L' H' ⟨O1, e, hn, hk⟩ ho le r => by
      subst e
      obtain ⟨L2, le2, is, r2⟩ := r.freeze ho
      rw [del_put hn] at r2
      exact q.nx _ _ _ _ _ hk (le.trans le2) ((hs.mono (le.trans le2)).set is j) r2
  rw [exec_Assign_Name_used
      _ _ _ _ hsw]
  refine wpAny_bind (wpAny_standAt
      (wpAny_bind ?_))
  show wpAny _ X.A (do let _ ← comprehension (.ListComp elt [⟨tg, iter, [], 0⟩] scope pos) scope X.env (firstIterPos [⟨tg, iter, [], 0⟩] pos) (newList []) false (eval iter X.env) (some (assign (.Name y py) X.env))) _ _ s
  refine wpAny_bind (thn (lc_coreX (Qf := fun _ s' => SP X pins E .next s') hst hf tk hc hN I hpi (blkOk_by ok) hg (fun _ _ _ _ _ _ => pts_nil) (fun s H C cl fp xe tkc => ⟨fun pins s1 σ' H1 Q I h => h s H C cl fp xe tkc pins s1 I⟩) hfs run fun D ce s' m H' I' q2 hn f => ?_) fun _ s' hq => wpAny_pure (wpAny_pure hq))
  show wpAny _ _ (assign (.Name y py) X.env (.ref D)) _ _ _
  refine wpAny_assign_Name (store_ok2 (v := V.ref D) I' hN hy (.inl hyl) rfl (fun s2 I2 ⟨a, sb, ha⟩ => ?_) (.inr hyl))
  obtain ⟨f0, f1, f2,
      f3, f4, f5⟩ := f
  have haC : ce.locals ≠ a := by
    rcases ha with z | z
    · rw [z]
      exact f1
    · exact fun e =>
          f4 y a z e.symm
  refine ⟨m, hn.sameBut sb haC,
      fun h3 sb3 => ?_⟩
  exact ⟨_, H', I2.turned (t' := s2.toks) (fun b o hb e => (sb3.2 b hb).trans e) f0 f1 f3 f4 f5, q2⟩
end
section
variable {X : Cx} {L0 : Lg} {Γ : Sg} {O : Ow} {k : KD} {e : Expr}
theorem e_vaX {x : Str} {i : Nat} (hv : Va X x i) (h : Va X x i → WEx X L0 e Γ O k) : WEx X L0 e Γ O k := h hv
theorem e_knX {x : Str} {j : Nat} {S : SpD} (hv : KnX X x j S) (h : KnX X x j S → WEx X L0 e Γ O k) : WEx X L0 e Γ O k := h hv
/-- item by item: p tells what an item gives, or that it raises -/
theorem lcx_map {α : Type} {elt : Expr} {scope : Scope} {kc : Addr → List (Str × D) → Ow → Prop} {vs : List Nat} {t : Tg} {fin : List D → Prop} (l : List α) (g : α → D) (p : α → Option D) (hz : l.length ≤ 1100)
    (step : ∀ (i : Nat) (a : α), l[i]? = some a → (∀ (j : Nat) (b : α), j < i → l[j]? = some b → p b ≠ none) → ∀ O2, (∀ O3, DL.Sub O3 O → DL.Sub O3 O2) → ∃ Γ2, tgD t (g a) (wipeD Γ vs) = some Γ2 ∧ BEX X scope kc elt Γ2 O2 fun y O4 => O4 = O2 ∧ p a = some y)
    (hf : (∀ a ∈ l, p a ≠ none) → fin (l.map fun a => (p a).getD .non)) : LcX X elt scope kc vs t Γ (l.map g) O fin := by
  refine ⟨fun i acc => i ≤ l.length ∧ (∀ (j : Nat) (b : α), j < i → l[j]? = some b → p b ≠ none) ∧ acc = (l.take i).map fun a => (p a).getD .non, ⟨Nat.zero_le _, fun j b h => absurd h (Nat.not_lt_zero _), rfl⟩, ?_, ?_⟩
  · rintro i d acc hd ⟨hi, hp, rfl⟩ O2 _ sb
    rw [List.getElem?_map] at hd
    cases ha : l[i]? with
    | none => rw [ha] at hd; cases hd
    | some a =>
      rw [ha] at hd
      obtain rfl := Option.some.inj hd
      have hlt := (List.getElem?_eq_some_iff.mp ha).1
      obtain ⟨Γ2, h1, h2⟩ := step i a ha hp O2 sb
      refine ⟨Γ2, h1, fun s H C cl fp xe Lc tx σ L H' l0 hs hr Q q => h2 s H C cl fp xe Lc tx σ L H' l0 hs hr Q fun v y O4 L4 H4 hy le is r => q v y O4 L4 H4 ?_ le is r⟩
      obtain ⟨eO, hy⟩ := hy
      refine ⟨eO, ?_, hlt, fun j b hj hb => ?_, ?_⟩
      · rw [List.length_map, List.length_take, sizeLine_eq]
        omega
      · by_cases c : j = i
        · subst c
          rw [ha] at hb
          cases hb
          rw [hy]
          exact fun z => nomatch z
        · exact hp j b (by omega) hb
      · rw [List.take_succ, ha, List.map_append]
        show _ = _ ++ [(p a).getD .non]
        rw [hy]
        rfl
  · rintro acc ⟨_, hp, rfl⟩
    rw [List.length_map,
        List.take_length]
    refine hf fun a ha => ?_
    obtain ⟨j, hj⟩ := List.getElem?_of_mem ha
    exact hp j a (by rw [List.length_map]; exact (List.getElem?_eq_some_iff.mp hj).1) hj
end
section
variable {X : Cx} {Γ : Sg} {O : Ow}
/-- [f for g in l if c] -/
theorem lc_filter {α : Type} {elt cnd : Expr} {scope : Scope} {vs : List Nat} {t : Tg} {fin : List D → Prop} (l : List α) (g f : α → D) (c : α → Bool) (hz : l.length ≤ 1100)
    (h : ∀ a, a ∈ l → ∀ O2, Agr O O2 → ∃ Γ2, tgD t (g a) (wipeD Γ vs) = some Γ2 ∧ (∀ s H C cl fp, WT (Bk X scope s H C cl fp) cnd Γ2 O2 fun b O3 => b = c a ∧ O3 = O2) ∧ (c a = true → BE X scope elt Γ2 O2 fun y O4 => O4 = O2 ∧ y = f a))
    (hf : fin ((l.filter c).map f)) : LcD X elt [cnd] scope vs t Γ (l.map g) O fin := by
  refine ⟨fun i acc => i ≤ l.length ∧ acc = ((l.take i).filter c).map f, ⟨Nat.zero_le _, rfl⟩, ?_, ?_⟩
  · rintro i d acc hd ⟨hi, rfl⟩ O2 ag
    rw [List.getElem?_map] at hd
    cases ha : l[i]? with
    | none => rw [ha] at hd; cases hd
    | some a =>
      rw [ha] at hd
      obtain rfl := Option.some.inj hd
      have hlt := (List.getElem?_eq_some_iff.mp ha).1
      obtain ⟨Γ2, h1, h2, h3⟩ := h a (List.mem_of_getElem? ha) O2 ag
      have sz : (((l.take i).filter c).map f).length ≤ 1100 := by
        rw [List.length_map]
        refine Nat.le_trans (List.length_filter_le _ _) ?_
        rw [List.length_take]
        omega
      refine ⟨Γ2, h1, fun s H C cl fp => (h2 s H C cl fp).imp fun b O3 ⟨eb, eO⟩ => ⟨eO, ?_⟩⟩
      subst eb
      cases hc : c a with
      | false =>
        simp only [Bool.false_eq_true,
            if_false]
        refine ⟨hlt, ?_⟩
        rw [List.take_succ, ha, List.filter_append, List.map_append]
        show _ = _ ++ (List.filter c [a]).map f
        rw [List.filter_cons_of_neg (by rw [hc]; exact Bool.false_ne_true), List.filter_nil, List.map_nil, List.append_nil]
      | true =>
        simp only [if_true]
        intro s H C cl fp
        refine (h3 hc s H C cl fp).imp fun y O4 ⟨e, hy⟩ => ⟨e, by rw [sizeLine_eq]; omega, hlt, ?_⟩
        rw [hy, List.take_succ, ha, List.filter_append, List.map_append]
        show _ = _ ++ (List.filter c [a]).map f
        rw [List.filter_cons_of_pos hc, List.filter_nil]
        rfl
  · rintro acc ⟨_, rfl⟩
    rw [List.length_map,
        List.take_length]
    exact hf
end
/-- one statement, then the rest from what it leaves -/
theorem ws_consK {X : Cx} {Γ : Sg} {O : Ow} {De : DE} {st : Stmt} {rest : List Stmt} {P : Sg → Ow → Prop} (h : WS X st Γ O { De with nx := P }) (hr : ∀ Γ' O', P Γ' O' → WSs X rest Γ' O' De) : WSs X (st :: rest) Γ O De :=
  ws_cons fun σ L H hs hR E q => h σ L H hs hR E ⟨fun Γ' O' σ' L' H' a le s r => q.nx Γ' O' σ' L' H' (hr Γ' O' a) le s r, q.rt, q.bk, q.ct⟩
/-- d in a list of data -/
theorem wo_inD {X : Cx} {O : Ow} {k : KD} {d : D} {ds : List D} (hu : X.A.units + 65 < cLine) (h1 : d.isPy = true) (h2 : (D.lst ds).isPy = true) (s1 : SeqAt.shaped d.py = true) (s2 : SeqAt.shaped (D.lst ds).py = true) (h : k (.bl ((D.pys ds).any fun z => PyData.eqv z d.py)) O) : WO X (compareOp .In) d (.lst ds) O k := fun vx vy L H ix iy hr Q q =>
  toO (op_inD hu) ⟨d.py, D.pys ds, ix.dp hr h1, iy.dp hr h2, s1, s2, q _ _ _ _ _ h (.refl L) (.bl _) hr⟩
end DL
/-! DL, part e: list(text) -/
namespace DL
open L2 PySem
open PySem.Spec PyProof.Rows
/-- the signs of a text, each a text -/
def signV (z : Str) : List V := z.cps.toList.map fun c => .str ⟨#[c]⟩
def signD (z : Str) : List D := z.cps.toList.map fun c => .str ⟨#[c]⟩
theorem sign_is {K : PySem.W.Frag} {L : Lg} : ∀ (cs : List Nat), IsL K L (cs.map fun c => V.str ⟨#[c]⟩) (cs.map fun c => D.str ⟨#[c]⟩)
  | [] => .nil
  | c :: cs => .cons (.str _) (sign_is cs)
theorem sign_vals : ∀ (us : List Value) (cs : List Nat), us.length = cs.length → (∀ (i : Nat) (u : Value), us[i]? = some u → ∃ c t, cs[i]? = some c ∧ u = .str ⟨#[c]⟩ t) → Vals (cs.map fun c => V.str ⟨#[c]⟩) us
  | [], [], _, _ => .nil
  | [], _ :: _, e, _ => by cases e
  | _ :: _, [], e, _ => by cases e
  | u :: us, c :: cs, e, h => by
    obtain ⟨c', t, h1, rfl⟩ := h 0 u rfl
    obtain rfl : c = c' := by simpa using h1
    exact .cons ⟨t, rfl⟩ (sign_vals us cs (by simpa using e) fun i u hu => by simpa using h (i + 1) u (by simpa using hu))
theorem call_list_txt {X : Cx} (hc : X.calm = true) : CallR X (.type "list") (fun xs H Q => ∃ z : Str, xs = [.str z] ∧ z.length ≤ sizeLine ∧ ∀ l, H l = none → Q (.ref l) (upd H l (.lst (signV z)))) := by
  intro pins s σ
      H xs us Q I r h
  obtain ⟨z, rfl, hz, q⟩ := h
  obtain ⟨u, rfl, t,
      rfl⟩ := vals1 r
  refine call_list_str (I.ok.hd hc) z t (fun h' tk acc c' kp e hI => ?_) hz
  have hlen : acc.toList.length = z.cps.toList.length := by
    rw [Array.length_toList, Array.length_toList]
    exact hI.1
  have hv : Vals (signV z) acc.toList := sign_vals _ _ hlen fun i u hu => by
    obtain ⟨c, t', h1, h2⟩ := hI.2 i u (by simpa using hu)
    exact ⟨c, t', by simpa using h1, h2⟩
  refine ⟨.ref s.heap.objs.size, _, I.laid (t' := tk) kp (Nat.le_refl _) (show ObjOk X.prog X.w _ h' _ (.lst (signV z)) from ⟨?_, acc.toList, c', hv, by rw [Array.toArray_toList]; exact e⟩), rfl, q _ (I.hok.fresh (Nat.le_refl _))⟩
  unfold signV
  rw [List.length_map,
      Array.length_toList]
  exact hz
section
variable {X : Cx} {O : Ow} {k : KD}
theorem wc_listS {z : Str} (hc : X.calm = true) (hz : z.length ≤ sizeLine) (h : k (.lst (signD z)) O) : WC X (.type "list") [.str z] O k := fun vs L H is hr Q q => by
  obtain ⟨v, rfl, a⟩ := is.one'
  refine toC (call_list_txt hc) ⟨z, by rw [a.str'], hz, fun l hl => ?_⟩
  obtain ⟨L', le, i, r⟩ := hr.newL hl (sign_is z.cps.toList)
  exact q _ _ _ _ _ h le i r
end
/-! ### a law that begins with nothing owned -/
section
variable {base : Heap} {mg : Str → Option Value} {K : PySem.W.Frag} {w : World} {P : Program}
theorem FnG.pre {CX : CXT} {k : Nat} {f : Addr} {fd : FuncData} {ps : List Str} {sp sp' : Sp} (F : FnG P w K mg base CX k f fd ps sp) (h : ∀ vs H Q E, sp' vs H Q E → sp vs H Q E) : FnG P w K mg base CX k f fd ps sp' :=
  ⟨fun vs H Q E z => F.ln vs H Q E (h _ _ _ _ z), fun A outer s H args us vs Q E hg hr e b v z => F.go A outer s H args us vs Q E hg hr e b v (h _ _ _ _ z)⟩
theorem R.none {L : Lg} {O : Ow} {H : Hp} (r : R K L O H) : R K L (fun _ => none) H := ⟨r.hp, fun a k h => ⟨(r.bx a k h).1, rfl, (r.bx a k h).2.2⟩, fun a od h => by cases h⟩
def sLawE (n : Nat) : SpD := fun ds O k kx => (∀ a, O a = none) ∧ sLaw n ds O k kx
theorem Pl.noO {x : Str} {st : Stmt} {ps : List Str} {j n : Nat} (F : Pl P w K mg base x st ps j (sLawE n)) : Pl P w K mg base x st ps j (sLaw n) := fun f fd hf => (F f fd hf).pre fun vs H Q E ⟨ds, L, O, k, kx, i, r, ⟨ns, e, hl, hk⟩, a, b⟩ => ⟨ds, L, fun _ => .none, k, kx, i, r.none, ⟨fun _ => rfl, ns, e, hl, hk⟩, a, b⟩
end
end DL
namespace Lw
open L2 DL PySem
open PySem.Spec PyProof.Rows
local macro_rules | `(tactic| walk_at "side") => `(tactic| first | assumption | rfl | (intro _; rfl) | exact nomark _ | (with_unfolding_all rfl) | decide)
local macro_rules | `(tactic| walk_at "sq") => `(tactic| first | assumption | exact sq_lst | exact sq_scr | exact sq_own (by first | assumption | exact put_same))
local macro_rules | `(tactic| walk_at "dc") => `(tactic| first | assumption | exact dc_dic | exact dc_own (by first | assumption | exact put_same))
local macro_rules | `(tactic| walk_at "in") => `(tactic| first | exact in_ins | exact in_own (by first | assumption | exact put_same))
local macro_rules | `(tactic| walk_at "ty") => `(tactic| first | exact .str _ | exact .int _ | exact .bl _ | exact .non | exact .byt _ | exact .tup _ | exact .lst _ | exact .dic _ | assumption)
local macro_rules | `(tactic| walk_at "len") => `(tactic| first | assumption | (exact len_ok (by assumption)) | (exact len_okz (by assumption)))
local macro_rules | `(tactic| walk_at "s1.WE") => `(tactic| first
  | with_reducible refine' we_int ?_
  | ((with_reducible refine' we_var ?v ?g ?_); (case v => assumption); (case g => rfl))
  | with_reducible refine' we_str ?_
  | with_reducible refine' we_bl ?_
  | with_reducible refine' we_non ?_
  | with_reducible refine' we_byt ?_
  | with_reducible refine' we_bin ?_
  | with_reducible refine' we_not ?_
  | with_reducible refine' we_un ?_
  | ((with_reducible refine' we_cmp ?m ?_); (case m => first | exact nomark _ | rfl))
  | ((with_reducible refine' we_chain ?m ?_); (case m => with_unfolding_all rfl))
  | with_reducible refine' we_and ?_
  | with_reducible refine' we_or ?_
  | with_reducible refine' we_and1 ?_
  | with_reducible refine' we_ifExp ?_
  | (with_reducible refine' we_slice ?_)
  | ((with_reducible refine' we_ix ?h ?_); (case h => exact fun _ _ => rfl))
  | (with_reducible refine' we_tup ?_)
  | ((with_reducible refine' we_callB ?b ?h ?p ?_); (case b => assumption); (case h => rfl); (case p => rfl))
  | ((with_reducible refine' we_callT ?b ?h ?p ?_); (case b => assumption); (case h => rfl); (case p => rfl))
  | ((with_reducible refine' we_call ?b ?g ?r ?h ?p ?_); (case b => assumption); (case g => assumption); (case r => exact Room.mono (by assumption) (by decide)); (case h => rfl); (case p => rfl))
  | ((with_reducible refine' we_meth ?f ?g ?r ?a ?b ?c ?_); (case f => assumption); (case g => assumption); (case r => exact Room.mono (by assumption) (by decide)); (case a => rfl); (case b => rfl); (case c => rfl))
  | ((with_reducible refine' we_fld ?h ?_); (case h => rfl))
  | ((with_reducible refine' we_ty ?b ?_); (case b => assumption))
  | ((with_reducible refine' we_glob ?g ?h ?_); (case g => assumption); (case h => assumption))
  | ((with_reducible refine' we_bm (T := "str") (id := "str.rstrip") PySem.F.plainAttrs_str PySem.F.slot_str_rstrip ?a ?b ?c ?d ?e ?f ?_); (case a => rfl); (case b => rfl); (case c => rfl); (case d => rfl); (case e => rfl); (case f => rfl))
  | ((with_reducible refine' we_bm (T := "str") (id := "str.join") PySem.F.plainAttrs_str PySem.F.slot_str_join ?a ?b ?c ?d ?e ?f ?_); (case a => rfl); (case b => rfl); (case c => rfl); (case d => rfl); (case e => rfl); (case f => rfl))
  | ((with_reducible refine' we_bm0 (T := "str") (id := "str.lower") PySem.F.plainAttrs_str PySem.F.slot_str_lower ?a ?b ?c ?_); (case a => rfl); (case b => rfl); (case c => rfl))
  | ((with_reducible refine' we_bm0 (T := "str") (id := "str.upper") PySem.F.plainAttrs_str PySem.F.slot_str_upper ?a ?b ?c ?_); (case a => rfl); (case b => rfl); (case c => rfl)))
local macro_rules | `(tactic| walk_at "s1.WO") => `(tactic| first
  | with_reducible refine' wo_add ?_
  | with_reducible refine' wo_sub ?_
  | with_reducible refine' wo_band1 ?_
  | ((with_reducible refine' wo_mod ?h ?_); (case h => first | decide | omega))
  | ((with_reducible refine' wo_fdiv ?h ?_); (case h => first | decide | omega))
  | ((with_reducible refine' wo_mul ?h ?_); (case h => first | (left; decide) | (right; decide) | (left; omega) | (right; omega)))
  | ((with_reducible refine' wo_pow ?h ?_); (case h => exact ⟨by decide, by decide, by decide⟩))
  | with_reducible refine' wo_lt ?_
  | with_reducible refine' wo_ltS ?_
  | with_reducible refine' wo_le ?_
  | with_reducible refine' wo_gt ?_
  | with_reducible refine' wo_ge ?_
  | with_reducible refine' wo_eq_ii ?_
  | with_reducible refine' wo_ne_ii ?_
  | with_reducible refine' wo_eq_ss ?_
  | with_reducible refine' wo_ne_ss ?_
  | with_reducible refine' wo_eq_bb ?_
  | with_reducible refine' wo_ne_bb ?_
  | with_reducible refine' wo_isN ?_
  | with_reducible refine' wo_notN ?_
  | with_reducible refine' wo_is_bb ?_
  | with_reducible refine' wo_not_bb ?_)
local macro_rules | `(tactic| walk_at "s1.ite") => `(tactic| first
  | (with_reducible refine' iteT ?_)
  | (with_reducible refine' iteF ?_)
  | ((with_reducible refine' iteT' ?h ?_); (case h => rfl))
  | ((with_reducible refine' iteF' ?h ?_); (case h => rfl))
  | (with_reducible refine' iteD (fun hc => ?_) (fun hc => ?_))
  | (with_reducible refine' iteND (fun hc => ?_) (fun hc => ?_)))
local macro_rules | `(tactic| walk_at "s1.ex") => `(tactic| first
  | (with_reducible refine' par_i ?_)
  | ((with_reducible refine' fld_own ?o ?c ?n ?z ?_); (case o => first | assumption | exact put_same); (case c => assumption); (case n => assumption); (case z => exact small_lt' rfl))
  | ((with_reducible refine' fld_get ?i ?c ?n ?l ?_); (case i => walk_at "in"); (case c => assumption); (case n => assumption); (case l => rfl))
  | ((with_reducible refine' mth_get ?i ?l ?_); (case i => walk_at "in"); (case l => rfl))
  | ((with_reducible refine' Exists.intro _ (And.intro ?h ?_)); (case h => rfl)))
local macro_rules | `(tactic| walk_at "s1.and") => `(tactic| first
  | (with_reducible refine' tym_str ?_)
  | ((with_reducible refine' And.intro ?h ?_); (case h => exact small_len rfl))
  | ((with_reducible refine' And.intro ?h ?_); (case h => omega)))
local macro_rules | `(tactic| walk_at "s1.WT") => `(tactic| first
  | (with_reducible refine' wt_not ?_)
  | (with_reducible refine' wt_w (ww_and ?_))
  | (with_reducible refine' wt_w (ww_or ?_))
  | ((with_reducible refine' wt_cmp ?m ?_); (case m => first | exact nomark _ | rfl))
  | ((with_reducible refine' wt_chain ?m ?_); (case m => with_unfolding_all rfl))
  | ((with_reducible refine' wt_val ?h ?_); (case h => (intro _; rfl))))
local macro_rules | `(tactic| walk_at "s1.WSs") => `(tactic| first
  | (with_reducible refine' ws_one ?_)
  | (with_reducible refine' ws_cons ?_)
  | (with_reducible refine' ws_nil ?_))
local macro_rules | `(tactic| walk_at "s1.WS") => `(tactic| first
  | ((with_reducible refine' ws_set ?x ?w ?_); (case x => assumption); (case w => rfl))
  | (with_reducible refine' ws_ret ?_)
  | ((with_reducible refine' ws_parR ?c ?x ?y ?n ?lx ?ly ?w ?s ?_); (case c => rfl); (case x => assumption); (case y => assumption); (case n => decide); (case lx => rfl); (case ly => rfl); (case w => rfl); (case s => rfl))
  | ((with_reducible refine' ws_fld ?h ?_); (case h => rfl))
  | ((with_reducible refine' ws_asg ?a ?b ?c ?_); (case a => rfl); (case b => rfl); (case c => rfl))
  | (with_reducible refine' ws_retN ?_)
  | (with_reducible refine' ws_if ?_)
  | (with_reducible refine' ws_pass ?_)
  | (with_reducible refine' ws_doc ?_)
  | (with_reducible refine' ws_break ?_)
  | (with_reducible refine' ws_continue ?_)
  | ((with_reducible refine' ws_expr ?w ?_); (case w => rfl)))
local macro_rules | `(tactic| walk_at "s1.WA") => `(tactic| first
  | (with_reducible refine' wa_nil ?_)
  | ((with_reducible refine' wa_cons ?h ?_); (case h => rfl)))
local macro_rules | `(tactic| walk_at "s1.WC") => `(tactic| first
  | with_reducible refine' wc_int ?_
  | with_reducible refine' wc_intB ?_
  | with_reducible refine' wc_abs ?_
  | ((with_reducible refine' wc_reprI ?h ?_); (case h => omega))
  | with_reducible refine' wc_max2 rfl ?_
  | with_reducible refine' wc_min2 rfl ?_
  | ((with_reducible refine' wc_lenL ?d ?_); (case d => walk_at "sq"))
  | with_reducible refine' wc_lenT ?_
  | ((with_reducible refine' wc_all ?c ?d ?_); (case c => rfl); (case d => walk_at "sq"))
  | ((with_reducible refine' wc_divmod ?h ?_); (case h => first | decide | omega))
  | ((with_reducible refine' wc_isi ?t ?h ?_); (case t => walk_at "ty"); (case h => rfl))
  | ((with_reducible refine' wc_isi2 ?t ?h ?g ?_); (case t => walk_at "ty"); (case h => rfl); (case g => rfl)))
local macro_rules | `(tactic| walk_at "s1.WI") => `(tactic| first
  | ((with_reducible refine' wi_box ?h (fun g => ?_)); (case h => decide))
  | ((with_reducible refine' wi_tup ?h ?_); (case h => rfl))
  | ((with_reducible refine' wi_list ?d ?h ?_); (case d => walk_at "sq"); (case h => rfl))
  | ((with_reducible refine' wi_dictS ?u ?d ?h ?_); (case u => exact hu_of (by assumption)); (case d => walk_at "dc"); (case h => first | rfl | assumption))
  | (with_reducible refine' wi_two (fun hb => ?_) (fun hb => ?_))
  | ((with_reducible refine' wi_pair ?h (fun hp => ?_) (fun hp => ?_)); (case h => exact ⟨by omega, by omega⟩)))
local macro_rules | `(tactic| walk_at "s1.WG") => `(tactic| first
  | ((with_reducible refine' wg_name ?h ?_); (case h => assumption))
  | ((with_reducible refine' wg_tup ?h ?l ?f ?_); (case h => rfl); (case l => rfl); (case f => rfl))
  | ((with_reducible refine' wg_sub ?h ?_); (case h => exact fun _ => rfl)))
local macro_rules | `(tactic| walk_at "s1.WGs") => `(tactic| first
  | (with_reducible refine' wgs_nil ?_)
  | ((with_reducible refine' wgs_cons ?h ?_); (case h => rfl)))
local macro_rules | `(tactic| walk_at "s1.WW") => `(tactic| first
  | (with_reducible refine' ww_and ?_)
  | (with_reducible refine' ww_or ?_)
  | (with_reducible refine' ww_and1 ?_)
  | (with_reducible refine' ww_or1 ?_))
local macro_rules | `(tactic| walk_at "s1.WU") => `(tactic| first
  | with_reducible refine' wu_neg ?_)
local macro_rules | `(tactic| walk_at "s1.LoopD") => `(tactic| first
  | (with_reducible refine' loop_cons ?_)
  | (with_reducible refine' loop_nil ?_))
local macro_rules | `(tactic| walk_at "s1.WM") => `(tactic| first
  | ((with_reducible refine' wm_rstripC ?h ?_); (case h => walk_at "len"))
  | ((with_reducible refine' wm_lower ?h ?_); (case h => walk_at "len"))
  | ((with_reducible refine' wm_upper ?h ?_); (case h => walk_at "len")))
local macro_rules | `(tactic| walk_at "s1.WP") => `(tactic| first
  | (with_reducible refine' wp_some ?_)
  | (with_reducible refine' wp_none ?_))
local macro_rules | `(tactic| walk_at "s1.WSl") => `(tactic| first
  | ((with_reducible refine' wsl_str ?h ?_); (case h => assumption)))
local macro_rules | `(tactic| walk_at "s1.WSet") => `(tactic| first
  | ((with_reducible refine' wset_box ?h ?_); (case h => decide))
  | ((with_reducible refine' wset_dictS ?u ?o ?z ?_); (case u => exact hu_of (by assumption)); (case o => first | assumption | exact put_same); (case z => exact small_lt rfl)))
local macro_rules | `(tactic| walk_at "s1.WPs") => `(tactic| first
  | (with_reducible refine' wps_cons ?_)
  | (with_reducible refine' wps_nil ?_))
local macro_rules | `(tactic| walk_at "s1") => `(tactic| first
  | ((with_reducible refine' gq_WE ?_); walk_at "s1.WE")
  | ((with_reducible refine' gq_WO ?_); walk_at "s1.WO")
  | ((with_reducible refine' gq_ite ?_); walk_at "s1.ite")
  | ((with_reducible refine' gq_ex ?_); walk_at "s1.ex")
  | ((with_reducible refine' gq_and ?_); walk_at "s1.and")
  | ((with_reducible refine' gq_WT ?_); walk_at "s1.WT")
  | ((with_reducible refine' gq_WSs ?_); walk_at "s1.WSs")
  | ((with_reducible refine' gq_WS ?_); walk_at "s1.WS")
  | ((with_reducible refine' gq_WA ?_); walk_at "s1.WA")
  | ((with_reducible refine' gq_WC ?_); walk_at "s1.WC")
  | ((with_reducible refine' gq_WI ?_); walk_at "s1.WI")
  | ((with_reducible refine' gq_WG ?_); walk_at "s1.WG")
  | ((with_reducible refine' gq_WGs ?_); walk_at "s1.WGs")
  | ((with_reducible refine' gq_WW ?_); walk_at "s1.WW")
  | ((with_reducible refine' gq_WU ?_); walk_at "s1.WU")
  | ((with_reducible refine' gq_LoopD ?_); walk_at "s1.LoopD")
  | ((with_reducible refine' gq_WM ?_); walk_at "s1.WM")
  | ((with_reducible refine' gq_WP ?_); walk_at "s1.WP")
  | ((with_reducible refine' gq_WSl ?_); walk_at "s1.WSl")
  | ((with_reducible refine' gq_WSet ?_); walk_at "s1.WSet")
  | ((with_reducible refine' gq_WPs ?_); walk_at "s1.WPs"))
local macro_rules | `(tactic| walk_at "ev") => `(tactic| repeat' (walk_at "s1"))
local macro_rules | `(tactic| walk_at "evl") => `(tactic| repeat' (first | walk_at "s1" | (with_reducible refine' we_lst ?_)))
local macro_rules | `(tactic| walk_at "vis") => `(tactic| first | exact Or.inl rfl | exact Or.inr (Or.inl rfl) | exact Or.inr (Or.inr rfl))
local macro_rules | `(tactic| walk_at "loc") => `(tactic| first | exact Or.inl rfl | exact Or.inr rfl)
local macro_rules | `(tactic| walk_at "body") => `(tactic| (conv => arg 2; whnf))
def top (i : Nat) : Stmt := PySem.Challenge.pw_sentparts_k13_texts_of_no_table.main.body.getD i (.Pass ⟨0, 0, 0, 0⟩)
section
variable {base : Heap} {mg : Str → Option Value} {K : PySem.W.Frag} {w : World} {P : Program}
/-! ### draws -/
abbrev s__law_take : Stmt := top 38
abbrev n__law_take : List Str := ["_law_box_here", "_law_many", "_law_digit", "_law_near"]
abbrev p__law_take : List Str := ["_law_box_here", "_law_many"]
theorem sc__law_take : FnScope n__law_take p__law_take (defScope s__law_take) := ⟨rfl, rfl, rfl, by decide +kernel, rfl, by decide +kernel, by decide +kernel⟩
abbrev s__law_box : Stmt := top 37
abbrev n__law_box : List Str := ["_law_script", "_law_k", "_law_great", "_law_seed"]
abbrev p__law_box : List Str := ["_law_script", "_law_k"]
theorem sc__law_box : FnScope n__law_box p__law_box (defScope s__law_box) := ⟨rfl, rfl, rfl, by decide +kernel, rfl, by decide +kernel, by decide +kernel⟩
abbrev s__law_pick : Stmt := top 39
abbrev n__law_pick : List Str := ["_law_box_here", "_law_some"]
abbrev p__law_pick : List Str := ["_law_box_here", "_law_some"]
theorem sc__law_pick : FnScope n__law_pick p__law_pick (defScope s__law_pick) := ⟨rfl, rfl, rfl, by decide +kernel, rfl, by decide +kernel, by decide +kernel⟩
def sTake : SpD := fun ds O k _ => ∃ n : Int, ds = [.box, .int n] ∧ 0 < n ∧ n < 1073741824 ∧ ∀ r : Int, 0 ≤ r → r < n → k (.int r) O
theorem sTake_i {O : Ow} {k : KD} {kx : KX} {n : Int} (h0 : 0 < n ∧ n < 1073741824) (h : ∀ r : Int, 0 ≤ r → r < n → k (.int r) O) : sTake [.box, .int n] O k kx := ⟨n, rfl, h0.1, h0.2, h⟩
theorem pm_take (Dd : Df K mg "_law_take" s__law_take p__law_take) (b_int : mg "int" = none) : Pm P w K mg base "_law_take" 1 sTake := by
  refine Pm.of Dd sc__law_take (fun ds O k kx ⟨n, h, _⟩ => by rw [h]; rfl) (fun f cdv A outer s H E hg hr ds O k kx hS => ?_)
  obtain ⟨n, rfl, n0, n1, hk⟩ := hS
  refine with_va (x := "_law_box_here") (i := 0) ⟨rfl, by walk_at "vis", by decide, by decide⟩ fun va0 => ?_
  refine with_va (x := "_law_many") (i := 1) ⟨rfl, by walk_at "vis", by decide, by decide⟩ fun va1 => ?_
  refine with_va (x := "_law_digit") (i := 2) ⟨rfl, by walk_at "vis", by decide, by decide⟩ fun va2 => ?_
  refine with_va (x := "_law_near") (i := 3) ⟨rfl, by walk_at "vis", by decide, by decide⟩ fun va3 => ?_
  refine with_vs (x := "_law_digit") (i := 2) ⟨sc__law_take.nd, rfl, by walk_at "loc", .inl rfl⟩ fun vs2 => ?_
  refine with_vs (x := "_law_near") (i := 3) ⟨sc__law_take.nd, rfl, by walk_at "loc", .inl rfl⟩ fun vs3 => ?_
  refine with_bt (x := "int") (T := "int") ⟨rfl, b_int, by decide +kernel, by decide, by decide⟩ fun bt_int => ?_
  walk_at "body"
  walk_at "ev"
  all_goals exact Ret.of (hk _ (Int.emod_nonneg _ (by omega)) (Int.emod_lt_of_pos _ n0))
def sBox : SpD := fun ds O k _ => ∃ (ns : List Int) (j : Nat), ds = [.scr (ns.map .int), .int (j : Int)] ∧ k .box O
theorem pm_box (Dd : Df K mg "_law_box" s__law_box p__law_box) (b_int : mg "int" = none) (b_len : mg "len" = none) (b_abs : mg "abs" = none) : Pm P w K mg base "_law_box" 1 sBox := by
  refine Pm.of Dd sc__law_box (fun ds O k kx ⟨ns, j, h, _⟩ => by rw [h]; rfl) (fun f cdv A outer s H E hg hr ds O k kx hS => ?_)
  obtain ⟨ns, j, rfl, hk⟩ := hS
  refine with_va (x := "_law_script") (i := 0) ⟨rfl, by walk_at "vis", by decide, by decide⟩ fun va0 => ?_
  refine with_va (x := "_law_k") (i := 1) ⟨rfl, by walk_at "vis", by decide, by decide⟩ fun va1 => ?_
  refine with_va (x := "_law_great") (i := 2) ⟨rfl, by walk_at "vis", by decide, by decide⟩ fun va2 => ?_
  refine with_va (x := "_law_seed") (i := 3) ⟨rfl, by walk_at "vis", by decide, by decide⟩ fun va3 => ?_
  refine with_vs (x := "_law_great") (i := 2) ⟨sc__law_box.nd, rfl, by walk_at "loc", .inl rfl⟩ fun vs2 => ?_
  refine with_vs (x := "_law_seed") (i := 3) ⟨sc__law_box.nd, rfl, by walk_at "loc", .inl rfl⟩ fun vs3 => ?_
  refine with_bt (x := "int") (T := "int") ⟨rfl, b_int, by decide +kernel, by decide, by decide⟩ fun bt_int => ?_
  refine with_bn (x := "len") (id := "len") ⟨rfl, b_len, by decide +kernel, by decide, by decide⟩ fun bn_len => ?_
  refine with_bn (x := "abs") (id := "abs") ⟨rfl, b_abs, by decide +kernel, by decide, by decide⟩ fun bn_abs => ?_
  walk_at "body"
  walk_at "ev"
  · have hj : (j : Int) < ((ns.map D.int).length : Int) := by assumption
    rw [List.length_map] at hj
    refine wi_scrI (by omega) hj fun v _ => ?_
    walk_at "ev"
    refine we_boxL ?_
    walk_at "evl"
    all_goals (refine Exists.intro _ (Exists.intro _ (Exists.intro _ (And.intro rfl ?_))))
    all_goals exact Ret.of hk
  · have hj : (0 : Int) < ((ns.map D.int).length : Int) := by assumption
    rw [List.length_map] at hj
    rw [List.length_map]
    refine wi_scrI (Int.emod_nonneg _ (by omega)) (Int.emod_lt_of_pos _ hj) fun v _ => ?_
    walk_at "ev"
    refine we_boxL ?_
    walk_at "evl"
    all_goals (refine Exists.intro _ (Exists.intro _ (Exists.intro _ (And.intro rfl ?_))))
    all_goals exact Ret.of hk
  · refine we_boxL ?_
    walk_at "evl"
    all_goals (refine Exists.intro _ (Exists.intro _ (Exists.intro _ (And.intro rfl ?_))))
    all_goals exact Ret.of hk
def sPick : SpD := fun ds O k _ => (∃ d xs, ds = [.box, d] ∧ SqD O d xs ∧ 0 < xs.length ∧ xs.length < 1073741824 ∧ ∀ e, e ∈ xs → k e O) ∨
  ∃ z : Str, ds = [.box, .str z] ∧ 0 < z.cps.toList.length ∧ z.cps.toList.length < 1000 ∧ ∀ c, c ∈ z.cps.toList → k (.str ⟨#[c]⟩) O
theorem sPick_l {O : Ow} {k : KD} {kx : KX} {d : D} {xs : List D} (h1 : SqD O d xs) (h2 : 0 < xs.length ∧ xs.length < 1073741824) (h : ∀ e, e ∈ xs → k e O) : sPick [.box, d] O k kx := .inl ⟨d, xs, rfl, h1, h2.1, h2.2, h⟩
theorem sPick_s {O : Ow} {k : KD} {kx : KX} {z : Str} (h1 : 0 < z.cps.toList.length ∧ z.cps.toList.length < 1000) (h : ∀ c, c ∈ z.cps.toList → k (.str ⟨#[c]⟩) O) : sPick [.box, .str z] O k kx := .inr ⟨z, rfl, h1.1, h1.2, h⟩
theorem pm_pick (Dd : Df K mg "_law_pick" s__law_pick p__law_pick) (h_take : Pm P w K mg base "_law_take" 1 sTake) (b_len : mg "len" = none) : Pm P w K mg base "_law_pick" 2 sPick := by
  refine Pm.of Dd sc__law_pick (fun ds O k kx h => by rcases h with ⟨_, _, h, _⟩ | ⟨_, h, _⟩ <;> rw [h] <;> rfl) (fun f cdv A outer s H E hg hr ds O k kx hS => ?_)
  rcases hS with ⟨d, xs, rfl, hd, h0, h1, hk⟩ | ⟨z, rfl, h0, h1, hk⟩
  · skip
    refine with_va (x := "_law_box_here") (i := 0) ⟨rfl, by walk_at "vis", by decide, by decide⟩ fun va0 => ?_
    refine with_va (x := "_law_some") (i := 1) ⟨rfl, by walk_at "vis", by decide, by decide⟩ fun va1 => ?_
    refine with_bn (x := "len") (id := "len") ⟨rfl, b_len, by decide +kernel, by decide, by decide⟩ fun bn_len => ?_
    refine with_kn (h_take.kn rfl rfl rfl rfl rfl rfl (by decide)) fun kn_take => ?_
    walk_at "body"
    walk_at "ev"
    refine sTake_i ⟨by omega, by omega⟩ fun r r0 r1 => ?_
    walk_at "ev"
    exact wi_any hd r0 r1 fun e he => Ret.of (hk e he)
  · skip
    refine with_va (x := "_law_box_here") (i := 0) ⟨rfl, by walk_at "vis", by decide, by decide⟩ fun va0 => ?_
    refine with_va (x := "_law_some") (i := 1) ⟨rfl, by walk_at "vis", by decide, by decide⟩ fun va1 => ?_
    refine with_bn (x := "len") (id := "len") ⟨rfl, b_len, by decide +kernel, by decide, by decide⟩ fun bn_len => ?_
    refine with_kn (h_take.kn rfl rfl rfl rfl rfl rfl (by decide)) fun kn_take => ?_
    walk_at "body"
    have hz : z.length = z.cps.toList.length := by simp [Str.length]
    have hz2 : z.length ≤ sizeLine := by rw [hz]; exact Nat.le_trans (Nat.le_of_lt h1) (by decide)
    walk_at "ev"
    refine wc_lenS hz2 ?_
    walk_at "ev"
    refine sTake_i ⟨by omega, by omega⟩ fun r r0 r1 => ?_
    walk_at "ev"
    exact wi_anyS hz2 r0 (by omega) fun c hc => Ret.of (hk c hc)

/-! ### the rules of a store -/
structure Wy where
  case : Str
  blanks : Str
  empty : Str
  lacking : Str
  last : Bool
  unit : Int
  halves : Str
structure Wy.ok (r : Wy) : Prop where
  case : r.case = "exact" ∨ r.case = "folded"
  blanks : r.blanks = "kept" ∨ r.blanks = "dropped"
  empty : r.empty = "text" ∨ r.empty = "lacks"
  lacking : r.lacking = "unknown" ∨ r.lacking = "unlike" ∨ r.lacking = "alike"
  unit : r.unit = 1 ∨ r.unit = 2 ∨ r.unit = 5 ∨ r.unit = 10
  halves : r.halves = "up" ∨ r.halves = "even" ∨ r.halves = "cut"
def Wy.kds (r : Wy) : List (Key × D) := [(.inr "case", .str r.case), (.inr "blanks", .str r.blanks), (.inr "empty", .str r.empty), (.inr "lacking", .str r.lacking), (.inr "last", .bl r.last), (.inr "unit", .int r.unit), (.inr "halves", .str r.halves)]
theorem mem2 {α : Type} {e a b : α} (h : e ∈ [a, b]) : e = a ∨ e = b := by
  rcases List.mem_cons.mp h with h | h
  · exact .inl h
  · exact .inr (List.mem_singleton.mp
        h)
theorem Ret.fzp {k : KD} {p : Addr} {od : OD} {O : Ow} (hn : O p = none) (h : k od.d O) : Ret k (.own p) (put O p od) := .frz put_same (by rw [del_put hn]; exact .refl O) h
theorem sPick_2 {O : Ow} {k : KD} {kx : KX} {a b : Str} (h : ∀ z, z = a ∨ z = b → k (.str z) O) : sPick [.box, .lst [.str a, .str b]] O k kx := sPick_l sq_lst ⟨by show 0 < 2; omega, by show 2 < _; omega⟩ fun e m => by
  rcases mem2 m with rfl | rfl
  · exact h _ (.inl rfl)
  · exact h _ (.inr rfl)
theorem sPick_3 {O : Ow} {k : KD} {kx : KX} {a b c : Str} (h : ∀ z, z = a ∨ z = b ∨ z = c → k (.str z) O) : sPick [.box, .lst [.str a, .str b, .str c]] O k kx := sPick_l sq_lst ⟨by show 0 < 3; omega, by show 3 < _; omega⟩ fun e m => by
  rcases List.mem_cons.mp m with rfl | m
  · exact h _ (.inl rfl)
  rcases mem2 m with rfl | rfl
  · exact h _ (.inr (.inl rfl))
  · exact h _ (.inr (.inr rfl))
theorem sPick_i4 {O : Ow} {k : KD} {kx : KX} {a b c d : Int} (h : ∀ z, z = a ∨ z = b ∨ z = c ∨ z = d → k (.int z) O) : sPick [.box, .lst [.int a, .int b, .int c, .int d]] O k kx := sPick_l sq_lst ⟨by show 0 < 4; omega, by show 4 < _; omega⟩ fun e m => by
  rcases List.mem_cons.mp m with rfl | m
  · exact h _ (.inl rfl)
  rcases List.mem_cons.mp m with rfl | m
  · exact h _ (.inr (.inl rfl))
  rcases mem2 m with rfl | rfl
  · exact h _ (.inr (.inr (.inl rfl)))
  · exact h _ (.inr (.inr (.inr rfl)))
local macro_rules | `(tactic| walk_at "z1") => `(tactic| first
  | (with_reducible refine' sPick_2 fun z hz => ?_)
  | (with_reducible refine' sPick_3 fun z hz => ?_)
  | (with_reducible refine' sPick_i4 fun z hz => ?_)
  | ((with_reducible refine' sTake_i ?h fun r r0 r1 => ?_); (case h => exact ⟨by omega, by omega⟩))
  | walk_at "s1")
local macro_rules | `(tactic| walk_at "zv") => `(tactic| repeat' (walk_at "z1"))
local macro_rules | `(tactic| walk_at "zvl") => `(tactic| repeat' (first | walk_at "z1" | (with_reducible refine' we_lst ?_)))
/-! ### names, texts, numbers, sorts -/
abbrev s_is_sequence : Stmt := top 16
abbrev n_is_sequence : List Str := ["value"]
abbrev p_is_sequence : List Str := ["value"]
theorem sc_is_sequence : FnScope n_is_sequence p_is_sequence (defScope s_is_sequence) := ⟨rfl, rfl, rfl, by decide +kernel, rfl, by decide +kernel, by decide +kernel⟩
abbrev s_is_name : Stmt := top 17
abbrev n_is_name : List Str := ["value", "sign"]
abbrev p_is_name : List Str := ["value"]
theorem sc_is_name : FnScope n_is_name p_is_name (defScope s_is_name) := ⟨rfl, rfl, rfl, by decide +kernel, rfl, by decide +kernel, by decide +kernel⟩
abbrev s_is_text : Stmt := top 18
abbrev n_is_text : List Str := ["value", "sign"]
abbrev p_is_text : List Str := ["value"]
theorem sc_is_text : FnScope n_is_text p_is_text (defScope s_is_text) := ⟨rfl, rfl, rfl, by decide +kernel, rfl, by decide +kernel, by decide +kernel⟩
abbrev s_is_number : Stmt := top 19
abbrev n_is_number : List Str := ["value"]
abbrev p_is_number : List Str := ["value"]
theorem sc_is_number : FnScope n_is_number p_is_number (defScope s_is_number) := ⟨rfl, rfl, rfl, by decide +kernel, rfl, by decide +kernel, by decide +kernel⟩
abbrev s_is_sort : Stmt := top 20
abbrev n_is_sort : List Str := ["value"]
abbrev p_is_sort : List Str := ["value"]
theorem sc_is_sort : FnScope n_is_sort p_is_sort (defScope s_is_sort) := ⟨rfl, rfl, rfl, by decide +kernel, rfl, by decide +kernel, by decide +kernel⟩
abbrev s_is_column : Stmt := top 22
abbrev n_is_column : List Str := ["value"]
abbrev p_is_column : List Str := ["value"]
theorem sc_is_column : FnScope n_is_column p_is_column (defScope s_is_column) := ⟨rfl, rfl, rfl, by decide +kernel, rfl, by decide +kernel, by decide +kernel⟩
local macro_rules | `(tactic| walk_at "t1") => `(tactic| first
  | ((with_reducible refine' we_gd ?g ?_); (case g => assumption))
  | ((with_reducible refine' wc_lenS ?h ?_); (case h => assumption))
  | walk_at "s1")
local macro_rules | `(tactic| walk_at "tv") => `(tactic| repeat' (walk_at "t1"))
abbrev lowS : Str := "abcdefghijklmnopqrstuvwxyz"
abbrev letS : Str := "abcdefghijklmnopqrstuvwxyzABCDEFGHIJKLMNOPQRSTUVWXYZ"
abbrev barL : List Str := ["is", "and", "or", "not", "as", "up", "down"]
abbrev barD : D := .tup [.str "is", .str "and", .str "or", .str "not", .str "as", .str "up", .str "down"]
def barB (z : Str) : Bool := inV (V.str z) (barL.map V.str)
@[irreducible] def nameB (z : Str) : Bool := decide (1 ≤ z.length) && (decide (z.length ≤ 4) && (!barB z && z.cps.toList.all fun c => decide (c ∈ lowS.cps.toList)))
@[irreducible] def txtB (z : Str) : Bool := decide (z.length ≤ 10) && (Txt.rstripChars z " ").cps.toList.all fun c => decide (c ∈ letS.cps.toList)
@[irreducible] def numB (n : Int) : Bool := decide (-1000000 ≤ n) && decide (n ≤ 1000000)
@[irreducible] def sortB (z : Str) : Bool := inV (V.str z) [V.str "text", V.str "number"]
section
variable {X : Cx} {Γ : Sg} {O : Ow} {k : KD} {kx : KX}
theorem wo_ninBar {z : Str} (h : k (.bl (!barB z)) O) : WO X (compareOp .NotIn) (.str z) barD O k := wo_ninT rfl rfl rfl rfl h
theorem wo_inSort {z : Str} (h : k (.bl (sortB z)) O) : WO X (compareOp .In) (.str z) (.tup [.str "text", .str "number"]) O k := wo_inT rfl rfl rfl rfl (by unfold sortB at h; exact h)
theorem all_signs {l m : List Nat} : ((l.map fun c => decide (c ∈ m)).all id) = l.all fun c => decide (c ∈ m) := by
  rw [List.all_map]
  rfl
end
/-- value is text -/
def sIsSeq : SpD := fun ds O k _ => ∃ xs, (ds = [.lst xs] ∨ ds = [.tup xs]) ∧ k (.bl true) O
theorem pm_isSeq (Dd : Df K mg "is_sequence" s_is_sequence p_is_sequence) (b_isi : mg "isinstance" = none) (b_list : mg "list" = none) (b_tuple : mg "tuple" = none) : Pm P w K mg base "is_sequence" 1 sIsSeq := by
  refine Pm.of Dd sc_is_sequence (fun ds O k kx h => by obtain ⟨_, h | h, _⟩ := h <;> rw [h] <;> rfl) (fun f cdv A outer s H E hg hr ds O k kx hS => ?_)
  obtain ⟨xs, rfl | rfl, hk⟩ := hS
  all_goals
    refine with_va (x := "value") (i := 0) ⟨rfl, by walk_at "vis", by decide, by decide⟩ fun va0 => ?_
    refine with_bn (x := "isinstance") (id := "isinstance") ⟨rfl, b_isi, by decide +kernel, by decide, by decide⟩ fun bn_isi => ?_
    refine with_bt (x := "list") (T := "list") ⟨rfl, b_list, by decide +kernel, by decide, by decide⟩ fun bt_list => ?_
    refine with_bt (x := "tuple") (T := "tuple") ⟨rfl, b_tuple, by decide +kernel, by decide, by decide⟩ fun bt_tuple => ?_
    walk_at "body"
    walk_at "tv"
  all_goals exact Ret.of hk
def sIsName : SpD := fun ds O k _ => ∃ z : Str, ds = [.str z] ∧ z.length ≤ 1000 ∧ k (.bl (nameB z)) O
theorem pm_isName (Dd : Df K mg "is_name" s_is_name p_is_name) (b_isi : mg "isinstance" = none) (b_str : mg "str" = none) (b_len : mg "len" = none) (b_all : mg "all" = none) (gL : GlD K mg "LOWER" (.str lowS)) (gN : GlD K mg "LONGEST_NAME" (.int 4)) (gB : GlD K mg "BARRED" barD) : Pm P w K mg base "is_name" 1 sIsName := by
  refine Pm.of Dd sc_is_name (fun ds O k kx h => by obtain ⟨_, h, _⟩ := h; rw [h]; rfl) (fun f cdv A outer s H E hg hr ds O k kx hS => ?_)
  obtain ⟨z, rfl, hz, hk⟩ := hS
  have hz2 : z.length ≤ sizeLine := Nat.le_trans hz (by decide)
  refine with_va (x := "value") (i := 0) ⟨rfl, by walk_at "vis", by decide, by decide⟩ fun va0 => ?_
  refine with_bn (x := "isinstance") (id := "isinstance") ⟨rfl, b_isi, by decide +kernel, by decide, by decide⟩ fun bn_isi => ?_
  refine with_bn (x := "len") (id := "len") ⟨rfl, b_len, by decide +kernel, by decide, by decide⟩ fun bn_len => ?_
  refine with_bn (x := "all") (id := "all") ⟨rfl, b_all, by decide +kernel, by decide, by decide⟩ fun bn_all => ?_
  refine with_bt (x := "str") (T := "str") ⟨rfl, b_str, by decide +kernel, by decide, by decide⟩ fun bt_str => ?_
  refine with_p (gN.gd (X := Bo P w K mg base n_is_name "is_name" s_is_name f cdv A outer s H E) rfl rfl rfl (by decide)) fun gd_n => ?_
  refine with_p (gB.gd (X := Bo P w K mg base n_is_name "is_name" s_is_name f cdv A outer s H E) rfl rfl rfl (by decide)) fun gd_b => ?_
  walk_at "body"
  walk_at "tv"
  · refine wo_ninBar ⟨_, rfl, iteBo (fun hb => ?_) fun hb => ?_⟩
    · walk_at "tv"
      refine we_lc [("sign", 1)] (.nm 1) rfl sc_is_name.nd rfl (.inl rfl) (fun _ => rfl) (fun s0 H0 C0 cl0 fp0 => pg_name (i := 1) sc_is_name.nd rfl (Or.inl rfl) (Or.inr rfl)) (by decide) ?_
      refine it_str ?_
      walk_at "tv"
      refine lc_mapL z.cps.toList (fun c => .str ⟨#[c]⟩) (fun c => .bl (decide (c ∈ lowS.cps.toList))) (by rw [← zlen]; exact hz) (fun c hc O2 ag => ⟨_, rfl, fun s0 H0 C0 cl0 fp0 => ?_⟩) ?_
      · refine e_va (x := "sign") (i := 1) ⟨rfl, by walk_at "vis", by decide, by decide⟩ fun va1 => ?_
        refine e_gd (gL.gd rfl rfl rfl (by decide)) fun gd_l => ?_
        walk_at "tv"
        exact wo_inSign ⟨rfl, rfl⟩
      · refine wa_nil (wc_all rfl (.inl (by rw [List.map_map]; rfl)) (Ret.of (bl_eq ?_ hk)))
        rw [all_signs]
        unfold nameB
        rw [hb, decide_eq_true (show 1 ≤ z.length by omega), decide_eq_true (show z.length ≤ 4 by omega)]
        rfl
    · refine Ret.of (bl_eq ?_ hk)
      unfold nameB
      rw [hb, Bool.false_and, Bool.and_false, Bool.and_false]
  all_goals
    refine Ret.of (bl_eq ?_ hk)
    cases h : nameB z
    · rfl
    · unfold nameB at h
      simp only [Bool.and_eq_true,
          decide_eq_true_eq] at h
      omega
def sIsText : SpD := fun ds O k _ => ∃ z : Str, ds = [.str z] ∧ z.length ≤ 1000 ∧ k (.bl (txtB z)) O
theorem pm_isText (Dd : Df K mg "is_text" s_is_text p_is_text) (b_isi : mg "isinstance" = none) (b_str : mg "str" = none) (b_len : mg "len" = none) (b_all : mg "all" = none) (gL : GlD K mg "LETTERS" (.str letS)) (gN : GlD K mg "LONGEST_TEXT" (.int 10)) : Pm P w K mg base "is_text" 1 sIsText := by
  refine Pm.of Dd sc_is_text (fun ds O k kx h => by obtain ⟨_, h, _⟩ := h; rw [h]; rfl) (fun f cdv A outer s H E hg hr ds O k kx hS => ?_)
  obtain ⟨z, rfl, hz, hk⟩ := hS
  have hz2 : z.length ≤ sizeLine := Nat.le_trans hz (by decide)
  have hz3 := len_rstripChars z " "
  refine with_va (x := "value") (i := 0) ⟨rfl, by walk_at "vis", by decide, by decide⟩ fun va0 => ?_
  refine with_bn (x := "isinstance") (id := "isinstance") ⟨rfl, b_isi, by decide +kernel, by decide, by decide⟩ fun bn_isi => ?_
  refine with_bn (x := "len") (id := "len") ⟨rfl, b_len, by decide +kernel, by decide, by decide⟩ fun bn_len => ?_
  refine with_bn (x := "all") (id := "all") ⟨rfl, b_all, by decide +kernel, by decide, by decide⟩ fun bn_all => ?_
  refine with_bt (x := "str") (T := "str") ⟨rfl, b_str, by decide +kernel, by decide, by decide⟩ fun bt_str => ?_
  refine with_p (gN.gd (X := Bo P w K mg base n_is_text "is_text" s_is_text f cdv A outer s H E) rfl rfl rfl (by decide)) fun gd_n => ?_
  walk_at "body"
  walk_at "tv"
  · refine Ret.of (bl_eq ?_ hk)
    cases h : txtB z
    · rfl
    · unfold txtB at h
      simp only [Bool.and_eq_true,
          decide_eq_true_eq] at h
      omega
  · refine we_lc [("sign", 1)] (.nm 1) rfl sc_is_text.nd rfl (.inl rfl) (fun _ => rfl) (fun s0 H0 C0 cl0 fp0 => pg_name (i := 1) sc_is_text.nd rfl (Or.inl rfl) (Or.inr rfl)) (by decide) ?_
    refine it_str ?_
    walk_at "tv"
    refine lc_mapL (Txt.rstripChars z " ").cps.toList (fun c => .str ⟨#[c]⟩) (fun c => .bl (decide (c ∈ letS.cps.toList))) (by rw [← zlen]; omega) (fun c hc O2 ag => ⟨_, rfl, fun s0 H0 C0 cl0 fp0 => ?_⟩) ?_
    · refine e_va (x := "sign") (i := 1) ⟨rfl, by walk_at "vis", by decide, by decide⟩ fun va1 => ?_
      refine e_gd (gL.gd rfl rfl rfl (by decide)) fun gd_l => ?_
      walk_at "tv"
      exact wo_inSign ⟨rfl, rfl⟩
    · refine wa_nil (wc_all rfl (.inl (by rw [List.map_map]; rfl)) (Ret.of (bl_eq ?_ hk)))
      rw [all_signs]
      unfold txtB
      rw [decide_eq_true (show z.length ≤ 10 by omega)]
      rfl
/-- value is a number, or it isn't -/
def sIsNum : SpD := fun ds O k _ => ∃ n : Int, ds = [.int n] ∧ k (.bl (numB n)) O
theorem pm_isNum (Dd : Df K mg "is_number" s_is_number p_is_number) (b_isi : mg "isinstance" = none) (b_int : mg "int" = none) (b_bool : mg "bool" = none) (gM : GlD K mg "LARGEST" (.int 1000000)) : Pm P w K mg base "is_number" 1 sIsNum := by
  refine Pm.of Dd sc_is_number (fun ds O k kx h => by obtain ⟨_, h, _⟩ := h; rw [h]; rfl) (fun f cdv A outer s H E hg hr ds O k kx hS => ?_)
  obtain ⟨n, rfl, hk⟩ := hS
  refine with_va (x := "value") (i := 0) ⟨rfl, by walk_at "vis", by decide, by decide⟩ fun va0 => ?_
  refine with_bn (x := "isinstance") (id := "isinstance") ⟨rfl, b_isi, by decide +kernel, by decide, by decide⟩ fun bn_isi => ?_
  refine with_bt (x := "int") (T := "int") ⟨rfl, b_int, by decide +kernel, by decide, by decide⟩ fun bt_int => ?_
  refine with_bt (x := "bool") (T := "bool") ⟨rfl, b_bool, by decide +kernel, by decide, by decide⟩ fun bt_bool => ?_
  refine with_p (gM.gd (X := Bo P w K mg base n_is_number "is_number" s_is_number f cdv A outer s H E) rfl rfl rfl (by decide)) fun gd_m => ?_
  walk_at "body"
  walk_at "tv"
  all_goals
    refine Ret.of (bl_eq ?_ hk)
    unfold numB
    first
      | rw [decide_eq_true (show -1000000 ≤ n by omega)]; rfl
      | rw [decide_eq_false (show ¬ -1000000 ≤ n by omega)]; rfl
def sIsSort : SpD := fun ds O k _ => ∃ z : Str, ds = [.str z] ∧ k (.bl (sortB z)) O
theorem pm_isSort (Dd : Df K mg "is_sort" s_is_sort p_is_sort) (b_isi : mg "isinstance" = none) (b_str : mg "str" = none) : Pm P w K mg base "is_sort" 1 sIsSort := by
  refine Pm.of Dd sc_is_sort (fun ds O k kx h => by obtain ⟨_, h, _⟩ := h; rw [h]; rfl) (fun f cdv A outer s H E hg hr ds O k kx hS => ?_)
  obtain ⟨z, rfl, hk⟩ := hS
  refine with_va (x := "value") (i := 0) ⟨rfl, by walk_at "vis", by decide, by decide⟩ fun va0 => ?_
  refine with_bn (x := "isinstance") (id := "isinstance") ⟨rfl, b_isi, by decide +kernel, by decide, by decide⟩ fun bn_isi => ?_
  refine with_bt (x := "str") (T := "str") ⟨rfl, b_str, by decide +kernel, by decide, by decide⟩ fun bt_str => ?_
  walk_at "body"
  walk_at "tv"
  exact wo_inSort (Ret.of hk)
/-- the words of a column -/
abbrev colW (ws : List Str) : D := .tup (ws.map .str)
@[irreducible] def colB : List Str → Bool
  | [a, b] => nameB a && sortB b
  | _ => false
theorem colB_two {a b : Str} : colB [a, b] = (nameB a && sortB b) := by unfold colB; rfl
def sIsCol : SpD := fun ds O k _ => ∃ ws : List Str, ds = [colW ws] ∧ (∀ z ∈ ws, z.length ≤ 1000) ∧ k (.bl (colB ws)) O
theorem pm_isCol (Dd : Df K mg "is_column" s_is_column p_is_column) (h_name : Pm P w K mg base "is_name" 1 sIsName) (h_sort : Pm P w K mg base "is_sort" 1 sIsSort) (b_isi : mg "isinstance" = none) (b_tuple : mg "tuple" = none) (b_len : mg "len" = none) : Pm P w K mg base "is_column" 2 sIsCol := by
  refine Pm.of Dd sc_is_column (fun ds O k kx h => by obtain ⟨_, h, _⟩ := h; rw [h]; rfl) (fun f cdv A outer s H E hg hr ds O k kx hS => ?_)
  obtain ⟨ws, rfl, hz, hk⟩ := hS
  refine with_va (x := "value") (i := 0) ⟨rfl, by walk_at "vis", by decide, by decide⟩ fun va0 => ?_
  refine with_bn (x := "isinstance") (id := "isinstance") ⟨rfl, b_isi, by decide +kernel, by decide, by decide⟩ fun bn_isi => ?_
  refine with_bn (x := "len") (id := "len") ⟨rfl, b_len, by decide +kernel, by decide, by decide⟩ fun bn_len => ?_
  refine with_bt (x := "tuple") (T := "tuple") ⟨rfl, b_tuple, by decide +kernel, by decide, by decide⟩ fun bt_tuple => ?_
  refine with_kn (h_name.kn rfl rfl rfl rfl rfl rfl (by decide)) fun kn_name => ?_
  refine with_kn (h_sort.kn rfl rfl rfl rfl rfl rfl (by decide)) fun kn_sort => ?_
  walk_at "body"
  by_cases hl : ws.length = 2
  · match ws, hl with
    | [a, b], _ =>
      walk_at "tv"
      refine ⟨a, rfl, hz a (by simp), _, rfl, iteBo (fun hb => ?_) fun hb => ?_⟩
      · walk_at "tv"
        refine ⟨b, rfl, Ret.of (bl_eq ?_ hk)⟩
        rw [colB_two, hb]
        rfl
      · refine Ret.of (bl_eq ?_ hk)
        rw [colB_two, hb]
        rfl
  · have e : colB ws = false := by
      unfold colB
      split
      · exact absurd rfl hl
      · rfl
    rw [e] at hk
    walk_at "tv"
    · exfalso
      have hc : ((ws.map D.str).length : Int) = 2 := by assumption
      rw [List.length_map] at hc
      omega
    · exact Ret.of hk
/-! ### columns, cells, rows, the table -/
abbrev s_are_columns : Stmt := top 23
abbrev n_are_columns : List Str := ["value", "names", "column"]
abbrev p_are_columns : List Str := ["value"]
theorem sc_are_columns : FnScope n_are_columns p_are_columns (defScope s_are_columns) := ⟨rfl, rfl, rfl, by decide +kernel, rfl, by decide +kernel, by decide +kernel⟩
abbrev s_is_cell : Stmt := top 21
abbrev n_is_cell : List Str := ["value", "sort"]
abbrev p_is_cell : List Str := ["value", "sort"]
theorem sc_is_cell : FnScope n_is_cell p_is_cell (defScope s_is_cell) := ⟨rfl, rfl, rfl, by decide +kernel, rfl, by decide +kernel, by decide +kernel⟩
abbrev s__are_cells : Stmt := top 31
abbrev n__are_cells : List Str := ["row", "columns", "cell", "column"]
abbrev p__are_cells : List Str := ["row", "columns"]
theorem sc__are_cells : FnScope n__are_cells p__are_cells (defScope s__are_cells) := ⟨rfl, rfl, rfl, by decide +kernel, rfl, by decide +kernel, by decide +kernel⟩
abbrev s__first_wrong : Stmt := top 30
abbrev n__first_wrong : List Str := ["columns", "rows", "row"]
abbrev p__first_wrong : List Str := ["columns", "rows"]
theorem sc__first_wrong : FnScope n__first_wrong p__first_wrong (defScope s__first_wrong) := ⟨rfl, rfl, rfl, by decide +kernel, rfl, by decide +kernel, by decide +kernel⟩
abbrev Col : Type := Str × Str
abbrev colD (c : Col) : D := .tup [.str c.1, .str c.2]
def namesOf (cs : List (List Str)) : List Str := cs.map fun ws => ws.headD ""
@[irreducible] def colsB (cs : List (List Str)) : Bool := decide (cs ≠ []) && (cs.all colB && decide (namesOf cs).Nodup)
section
variable {X : Cx} {Γ : Sg} {O : Ow} {k : KD} {kx : KX}
theorem colB_hd {ws : List Str} (h : colB ws = true) : ∃ a b, ws = [a, b] := by
  unfold colB at h
  split at h
  · exact ⟨_, _, rfl⟩
  · cases h
theorem isSeq_l {xs : List D} (h : k (.bl true) O) : sIsSeq [.lst xs] O k kx := ⟨xs, .inl rfl, h⟩
theorem isSeq_t {xs : List D} (h : k (.bl true) O) : sIsSeq [.tup xs] O k kx := ⟨xs, .inr rfl, h⟩
theorem isCol_i {ws : List Str} (hz : ∀ z ∈ ws, z.length ≤ 1000) (h : k (.bl (colB ws)) O) : sIsCol [colW ws] O k kx := ⟨ws, rfl, hz, h⟩
theorem colsB_nil {n : Int} (h : ((([] : List (List Str)).map colW).length : Int) = n) : colsB [] = false := by
  unfold colsB
  rfl
theorem unl_dec {l : List Str} : decide (((unl l.reverse : Nat) : Int) = (l.length : Int)) = decide l.Nodup := by
  have e := unl_all l.reverse
  rw [nodup_rev, List.length_reverse] at e
  by_cases h : l.Nodup
  · rw [decide_eq_true h, decide_eq_true (by exact_mod_cast e.mpr h)]
  · rw [decide_eq_false h, decide_eq_false (fun z => h (e.mp (by exact_mod_cast z)))]
end
local macro_rules | `(tactic| walk_at "t1") => `(tactic| first
  | ((with_reducible refine' we_gd ?g ?_); (case g => assumption))
  | ((with_reducible refine' wc_lenS ?h ?_); (case h => assumption))
  | ((with_reducible refine' we_lenSet ?b1 ?b2 ?c ?n ?_); (case b1 => assumption); (case b2 => assumption); (case c => rfl); (case n => rfl))
  | (with_reducible refine' isSeq_l ?_)
  | (with_reducible refine' isSeq_t ?_)
  | walk_at "s1")
local macro_rules | `(tactic| walk_at "tv") => `(tactic| repeat' (walk_at "t1"))
def sAreCols : SpD := fun ds O k _ => ∃ cs : List (List Str), (ds = [.lst (cs.map colW)] ∨ ds = [.tup (cs.map colW)]) ∧ cs.length ≤ 1000 ∧ (∀ ws ∈ cs, ∀ z ∈ ws, z.length ≤ 1000) ∧ k (.bl (colsB cs)) O
theorem pm_areCols (Dd : Df K mg "are_columns" s_are_columns p_are_columns) (h_seq : Pm P w K mg base "is_sequence" 1 sIsSeq) (h_col : Pm P w K mg base "is_column" 2 sIsCol) (b_len : mg "len" = none) (b_all : mg "all" = none) (b_set : mg "set" = none) : Pm P w K mg base "are_columns" 3 sAreCols := by
  refine Pm.of Dd sc_are_columns (fun ds O k kx h => by obtain ⟨_, h | h, _⟩ := h <;> rw [h] <;> rfl) (fun f cdv A outer s H E hg hr ds O k kx hS => ?_)
  obtain ⟨cs, hd, hz, hzz, hk⟩ := hS
  rcases hd with rfl | rfl
  all_goals
    refine with_va (x := "value") (i := 0) ⟨rfl, by walk_at "vis", by decide, by decide⟩ fun va0 => ?_
    refine with_va (x := "names") (i := 1) ⟨rfl, by walk_at "vis", by decide, by decide⟩ fun va1 => ?_
    refine with_vs (x := "names") (i := 1) ⟨sc_are_columns.nd, rfl, by walk_at "loc", .inl rfl⟩ fun vs1 => ?_
    refine with_bn (x := "len") (id := "len") ⟨rfl, b_len, by decide +kernel, by decide, by decide⟩ fun bn_len => ?_
    refine with_bn (x := "all") (id := "all") ⟨rfl, b_all, by decide +kernel, by decide, by decide⟩ fun bn_all => ?_
    refine with_bt (x := "set") (T := "set") ⟨rfl, b_set, by decide +kernel, by decide, by decide⟩ fun bt_set => ?_
    refine with_kn (h_seq.kn rfl rfl rfl rfl rfl rfl (by decide)) fun kn_seq => ?_
    walk_at "body"
    walk_at "tv"
  all_goals try first
    | (refine Ret.of (bl_eq ?_ hk)
       have e : cs = [] := by
         cases cs with
         | nil => rfl
         | cons a b =>
           exfalso
           have h : (((a :: b).map colW).length : Int) = 0 := by assumption
           rw [List.length_map, List.length_cons] at h
           omega
       subst e
       unfold colsB
       rfl)
  all_goals
    have hne : cs ≠ [] := fun e => by
      subst e
      have h : ¬ ((([] : List (List Str)).map colW).length : Int) = 0 := by assumption
      exact h rfl
    refine we_lc [("column", 2)] (.nm 2) rfl sc_are_columns.nd rfl (.inl rfl) (fun _ => rfl) (fun s0 H0 C0 cl0 fp0 => pg_name (i := 2) sc_are_columns.nd rfl (Or.inl rfl) (Or.inr rfl)) (by decide) ?_
    first
      | refine it_list ?_
        walk_at "tv"
        refine ⟨_, .inl rfl, ?_⟩
      | refine it_tup ?_
        walk_at "tv"
    refine lc_mapL cs colW (fun ws => .bl (colB ws)) hz (fun ws hw O2 ag => ⟨_, rfl, fun s0 H0 C0 cl0 fp0 => ?_⟩) ?_
    · refine e_va (x := "column") (i := 2) ⟨rfl, by walk_at "vis", by decide, by decide⟩ fun va2 => ?_
      refine e_kn (h_col.kn rfl rfl rfl rfl rfl rfl (by decide)) fun kn_col => ?_
      walk_at "tv"
      exact isCol_i (hzz ws hw) ⟨rfl, rfl⟩
    · refine wa_nil (wc_all rfl (.inl (by rw [List.map_map]; rfl)) ?_)
      have e1 : ((cs.map colB).all id) = cs.all colB := by
        rw [List.all_map]
        rfl
      rw [e1]
      refine ⟨_, rfl, ?_⟩
      refine iteBo (fun hb => ?_) fun hb => ?_
      · walk_at "tv"
        refine Ret.of (bl_eq ?_ hk)
        have hb2 : cs.all colB = false := by
          cases h : cs.all colB
          · rfl
          · rw [h] at hb
            cases hb
        unfold colsB
        rw [hb2, Bool.false_and, Bool.and_false]
      · have hb2 : cs.all colB = true := by
          cases h : cs.all colB
          · rw [h] at hb
            cases hb
          · rfl
        have two : ∀ ws ∈ cs, ∃ a b, ws = [a, b] := fun ws hw => colB_hd (List.all_eq_true.mp hb2 ws hw)
        walk_at "tv"
        (with_reducible refine' ws_setLc (j := 1) [("column", 2)] (.nm 2) ?c1 ?c2 ?c3 ?c4 ?c5 ?c6 ?c7 ?c8 ?c9 ?c10 ?_); (case c1 => rfl); (case c2 => exact sc_are_columns.nd); (case c3 => rfl); (case c4 => rfl); (case c5 => rfl); (case c6 => rfl); (case c7 => exact .inl rfl); (case c8 => exact fun _ => rfl); (case c9 => exact fun s0 H0 C0 cl0 fp0 => pg_name (i := 2) sc_are_columns.nd rfl (Or.inl rfl) (Or.inr rfl)); (case c10 => decide)
        first
          | refine it_list ?_
            walk_at "tv"
            refine ⟨_, .inl rfl, ?_⟩
          | refine it_tup ?_
            walk_at "tv"
        refine lc_mapL cs colW (fun ws => .str (ws.headD "")) hz (fun ws hw O2 ag => ⟨_, rfl, fun s0 H0 C0 cl0 fp0 => ?_⟩) ?_
        · obtain ⟨a, b, rfl⟩ := two ws hw
          refine e_va (x := "column") (i := 2) ⟨rfl, by walk_at "vis", by decide, by decide⟩ fun va2 => ?_
          walk_at "tv"
          exact ⟨rfl, rfl⟩
        · have e2 : cs.map (fun ws => D.str (ws.headD "")) = (namesOf cs).map D.str := by
            unfold namesOf
            rw [List.map_map]
            rfl
          rw [e2]
          walk_at "tv"
          refine ⟨namesOf cs, .inl rfl, by unfold namesOf; rw [List.length_map]; exact hz, ?_⟩
          walk_at "tv"
          refine Ret.of (bl_eq ?_ hk)
          rw [List.length_map, unl_dec]
          unfold colsB
          rw [hb2, decide_eq_true hne]
          rfl

/-! ### cells -/
def CellOk (s : Str) (d : D) : Prop := d = .non ∨ (s = "text" ∧ ∃ z : Str, d = .str z ∧ z.length ≤ 1000 ∧ txtB z = true) ∨ (s ≠ "text" ∧ ∃ n : Int, d = .int n ∧ numB n = true)
def sIsCell : SpD := fun ds O k _ => ∃ (d : D) (s : Str), ds = [d, .str s] ∧ CellOk s d ∧ k (.bl true) O
theorem pm_isCell (Dd : Df K mg "is_cell" s_is_cell p_is_cell) (h_text : Pm P w K mg base "is_text" 1 sIsText) (h_num : Pm P w K mg base "is_number" 1 sIsNum) : Pm P w K mg base "is_cell" 2 sIsCell := by
  refine Pm.of Dd sc_is_cell (fun ds O k kx h => by obtain ⟨_, _, h, _⟩ := h; rw [h]; rfl) (fun f cdv A outer s H E hg hr ds O k kx hS => ?_)
  obtain ⟨d, so, rfl, hc, hk⟩ := hS
  rcases hc with rfl | ⟨rfl, z, rfl, hz, ht⟩ | ⟨hs, n, rfl, hn⟩
  all_goals
    refine with_va (x := "value") (i := 0) ⟨rfl, by walk_at "vis", by decide, by decide⟩ fun va0 => ?_
    refine with_va (x := "sort") (i := 1) ⟨rfl, by walk_at "vis", by decide, by decide⟩ fun va1 => ?_
    refine with_kn (h_text.kn rfl rfl rfl rfl rfl rfl (by decide)) fun kn_text => ?_
    refine with_kn (h_num.kn rfl rfl rfl rfl rfl rfl (by decide)) fun kn_num => ?_
    walk_at "body"
    walk_at "tv"
  · exact Ret.of hk
  · refine ⟨z, rfl, hz, ?_⟩
    rw [ht]
    exact Ret.of hk
  · exact absurd ‹_› hs
  · refine ⟨n, rfl, ?_⟩
    rw [hn]
    exact Ret.of hk
/-- a row under its columns -/
def RowOk (cs : List Col) (r : List D) : Prop := r.length = cs.length ∧ ∀ p ∈ r.zip cs, CellOk p.2.2 p.1
theorem zip_cols (r : List D) (cs : List Col) : zipD r (cs.map colD) = (r.zip cs).map fun p => .tup [p.1, colD p.2] := by
  unfold zipD
  rw [List.zip_map_right, List.map_map]
  rfl
def sAreCells : SpD := fun ds O k _ => ∃ (r : List D) (cs : List Col), (ds = [.tup r, .lst (cs.map colD)] ∨ ds = [.lst r, .lst (cs.map colD)] ∨ ds = [.tup r, .tup (cs.map colD)]) ∧ RowOk cs r ∧ cs.length ≤ 1000 ∧ k (.bl true) O
theorem isCell_i {O : Ow} {k : KD} {kx : KX} {s : Str} {d : D} (h : CellOk s d) (hk : k (.bl true) O) : sIsCell [d, .str s] O k kx := ⟨d, s, rfl, h, hk⟩
theorem all_true {α : Type} (l : List α) : ((l.map fun _ => true).all id) = true := by
  induction l with
  | nil => rfl
  | cons a l ih => exact ih
theorem pm_areCells (Dd : Df K mg "_are_cells" s__are_cells p__are_cells) (h_cell : Pm P w K mg base "is_cell" 2 sIsCell) (b_all : mg "all" = none) (b_zip : mg "zip" = none) : Pm P w K mg base "_are_cells" 3 sAreCells := by
  refine Pm.of Dd sc__are_cells (fun ds O k kx h => by obtain ⟨_, _, h, _⟩ := h; rcases h with h | h | h <;> rw [h] <;> rfl) (fun f cdv A outer s H E hg hr ds O k kx hS => ?_)
  obtain ⟨r, cs, hd, ⟨hl, hr2⟩, hz, hk⟩ := hS
  rcases hd with rfl | rfl | rfl
  all_goals
    refine with_va (x := "row") (i := 0) ⟨rfl, by walk_at "vis", by decide, by decide⟩ fun va0 => ?_
    refine with_va (x := "columns") (i := 1) ⟨rfl, by walk_at "vis", by decide, by decide⟩ fun va1 => ?_
    refine with_bn (x := "all") (id := "all") ⟨rfl, b_all, by decide +kernel, by decide, by decide⟩ fun bn_all => ?_
    walk_at "body"
    walk_at "tv"
    refine we_lc [("cell", 2), ("column", 3)] (.tup [.nm 2, .nm 3]) rfl sc__are_cells.nd rfl (.inl rfl) (fun _ => rfl) (fun s0 H0 C0 cl0 fp0 => pg_tup rfl (pgs_cons (pg_name (i := 2) sc__are_cells.nd rfl (Or.inl rfl) (Or.inr rfl)) (pgs_cons (pg_name (i := 3) sc__are_cells.nd rfl (Or.inl rfl) (Or.inr rfl)) pgs_nil))) (by decide) ?_
    first
      | (refine it_zipM rfl b_zip rfl rfl ?_
         walk_at "tv"
         refine ⟨r, cs.map colD, rfl, ?_⟩)
      | (refine it_zipL rfl b_zip rfl rfl ?_
         walk_at "tv"
         refine ⟨r, cs.map colD, rfl, ?_⟩)
      | (refine it_zipT rfl b_zip rfl rfl ?_
         walk_at "tv"
         refine ⟨r, cs.map colD, rfl, ?_⟩)
    rw [zip_cols]
    refine lc_mapL (r.zip cs) (fun p => .tup [p.1, colD p.2]) (fun _ => .bl true) (by rw [List.length_zip]; omega) (fun p hp O2 ag => ⟨_, rfl, fun s0 H0 C0 cl0 fp0 => ?_⟩) ?_
    · refine e_va (x := "cell") (i := 2) ⟨rfl, by walk_at "vis", by decide, by decide⟩ fun va2 => ?_
      refine e_va (x := "column") (i := 3) ⟨rfl, by walk_at "vis", by decide, by decide⟩ fun va3 => ?_
      refine e_kn (h_cell.kn rfl rfl rfl rfl rfl rfl (by decide)) fun kn_cell => ?_
      walk_at "tv"
      exact isCell_i (hr2 p hp) ⟨rfl, rfl⟩
    · refine wa_nil (wc_all (bs := (r.zip cs).map fun _ => true) rfl (.inl (by rw [List.map_map]; rfl)) ?_)
      rw [all_true]
      exact Ret.of hk
abbrev s_Table___init__ : Stmt := inClass (top 29) 0
abbrev n_Table___init__ : List Str := ["self", "columns", "rows", "word", "row"]
abbrev p_Table___init__ : List Str := ["self", "columns", "rows"]
theorem sc_Table___init__ : FnScope n_Table___init__ p_Table___init__ (defScope s_Table___init__) := ⟨rfl, rfl, rfl, by decide +kernel, rfl, by decide +kernel, by decide +kernel⟩
def w2 (c : Col) : List Str := [c.1, c.2]
theorem cols_w2 (cs : List Col) : cs.map colD = (cs.map w2).map colW := by
  rw [List.map_map]
  rfl
structure COk (cs : List Col) : Prop where
  ok : colsB (cs.map w2) = true
  sz : cs.length ≤ 10
  wd : ∀ c ∈ cs, c.1.length ≤ 1000 ∧ c.2.length ≤ 1000
/-- a row as it is handed in: a list or a tuple -/
def rowD : Bool × List D → D
  | (true, r) => .lst r
  | (false, r) => .tup r
/-- what a table is made of -/
structure TOk (ct : Bool) (cs : List Col) (rws : List (Bool × List D)) : Prop where
  co : COk cs
  sz : rws.length ≤ 100
  row : ∀ p ∈ rws, RowOk cs p.2 ∧ (ct = true → p.1 = false)
def seqD (b : Bool) (xs : List D) : D := if b = true then .tup xs else .lst xs
local macro_rules | `(tactic| walk_at "t1") => `(tactic| first
  | ((with_reducible refine' we_gd ?g ?_); (case g => assumption))
  | ((with_reducible refine' wc_lenS ?h ?_); (case h => assumption))
  | (with_reducible refine' isSeq_l ?_)
  | (with_reducible refine' isSeq_t ?_)
  | walk_at "s1")
local macro_rules | `(tactic| walk_at "tv") => `(tactic| repeat' (walk_at "t1"))
section
variable {O : Ow} {k : KD} {kx : KX}
theorem w2_len {cs : List Col} (h : COk cs) : ∀ ws ∈ cs.map w2, ∀ z ∈ ws, z.length ≤ 1000 := fun ws hw z hz => by
  obtain ⟨c, hc, rfl⟩ := List.mem_map.mp hw
  have := h.wd c hc
  rcases mem2 hz with rfl | rfl
  · exact this.1
  · exact this.2
theorem areCols_l {cs : List Col} (h : COk cs) (hk : k (.bl true) O) : sAreCols [.lst (cs.map colD)] O k kx := ⟨cs.map w2, .inl (by rw [cols_w2]), by rw [List.length_map]; exact Nat.le_trans h.sz (by decide), w2_len h, by rw [h.ok]; exact hk⟩
theorem areCols_t {cs : List Col} (h : COk cs) (hk : k (.bl true) O) : sAreCols [.tup (cs.map colD)] O k kx := ⟨cs.map w2, .inr (by rw [cols_w2]), by rw [List.length_map]; exact Nat.le_trans h.sz (by decide), w2_len h, by rw [h.ok]; exact hk⟩
end
def sFirstT : SpD := fun ds O k _ => ∃ (ct rt : Bool) (cs : List Col) (rws : List (Bool × List D)), ds = [seqD ct (cs.map colD), seqD rt (rws.map rowD)] ∧ TOk ct cs rws ∧ k .non O
theorem pm_firstT (Dd : Df K mg "_first_wrong" s__first_wrong p__first_wrong) (h_seq : Pm P w K mg base "is_sequence" 1 sIsSeq) (h_cols : Pm P w K mg base "are_columns" 3 sAreCols) (h_cells : Pm P w K mg base "_are_cells" 3 sAreCells) (b_all : mg "all" = none) (b_len : mg "len" = none) : Pm P w K mg base "_first_wrong" 4 sFirstT := by
  refine Pm.of Dd sc__first_wrong (fun ds O k kx h => by obtain ⟨_, _, _, _, h, _⟩ := h; rw [h]; rfl) (fun f cdv A outer s H E hg hr ds O k kx hS => ?_)
  obtain ⟨ct, rt, cs, rws, rfl, ⟨co, hz0, hrow⟩, hk⟩ := hS
  have hz : rws.length ≤ 1000 := Nat.le_trans hz0 (by decide)
  have hcz : cs.length ≤ 1000 := Nat.le_trans co.sz (by decide)
  cases ct <;> cases rt
  all_goals
    refine with_va (x := "columns") (i := 0) ⟨rfl, by walk_at "vis", by decide, by decide⟩ fun va0 => ?_
    refine with_va (x := "rows") (i := 1) ⟨rfl, by walk_at "vis", by decide, by decide⟩ fun va1 => ?_
    refine with_bn (x := "all") (id := "all") ⟨rfl, b_all, by decide +kernel, by decide, by decide⟩ fun bn_all => ?_
    refine with_kn (h_seq.kn rfl rfl rfl rfl rfl rfl (by decide)) fun kn_seq => ?_
    refine with_kn (h_cols.kn rfl rfl rfl rfl rfl rfl (by decide)) fun kn_cols => ?_
    walk_at "body"
    simp only [seqD, if_true, if_false, Bool.false_eq_true]
    walk_at "tv"
    first | refine areCols_l co ?_ | refine areCols_t co ?_
    walk_at "tv"
    refine we_lc [("row", 2)] (.nm 2) rfl sc__first_wrong.nd rfl (.inl rfl) (fun _ => rfl) (fun s0 H0 C0 cl0 fp0 => pg_name (i := 2) sc__first_wrong.nd rfl (Or.inl rfl) (Or.inr rfl)) (by decide) ?_
    first
      | refine it_list ?_
        walk_at "tv"
        refine ⟨_, .inl rfl, ?_⟩
      | refine it_tup ?_
        walk_at "tv"
    refine lc_mapL rws rowD (fun _ => .bl true) hz (fun p hp O2 ag => ⟨_, rfl, fun s0 H0 C0 cl0 fp0 => ?_⟩) ?_
    · obtain ⟨⟨hl, _⟩, _⟩ := hrow p hp
      obtain ⟨b, r⟩ := p
      have hl2 : decide ((r.length : Int) = ((cs.map colD).length : Int)) = true := by
        rw [List.length_map]
        exact decide_eq_true (by exact_mod_cast hl)
      cases b
      all_goals
        refine e_va (x := "row") (i := 2) ⟨rfl, by walk_at "vis", by decide, by decide⟩ fun va2 => ?_
        refine e_va (x := "columns") (i := 0) ⟨rfl, by walk_at "vis", by decide, by decide⟩ fun va0 => ?_
        refine e_kn (h_seq.kn rfl rfl rfl rfl rfl rfl (by decide)) fun kn_seq => ?_
        refine e_bn (x := "len") (id := "len") ⟨rfl, b_len, by decide +kernel, by decide, by decide⟩ fun bn_len => ?_
        simp only [rowD]
        walk_at "tv"
        exact ⟨rfl, by rw [hl2]⟩
    · refine wa_nil (wc_all (bs := rws.map fun _ => true) rfl (.inl (by rw [List.map_map]; rfl)) ?_)
      rw [all_true]
      walk_at "tv"
      refine we_lc [("row", 2)] (.nm 2) rfl sc__first_wrong.nd rfl (.inl rfl) (fun _ => rfl) (fun s0 H0 C0 cl0 fp0 => pg_name (i := 2) sc__first_wrong.nd rfl (Or.inl rfl) (Or.inr rfl)) (by decide) ?_
      first
        | refine it_list ?_
          walk_at "tv"
          refine ⟨_, .inl rfl, ?_⟩
        | refine it_tup ?_
          walk_at "tv"
      refine lc_mapL rws rowD (fun _ => .bl true) hz (fun p hp O2 ag => ⟨_, rfl, fun s0 H0 C0 cl0 fp0 => ?_⟩) ?_
      · obtain ⟨hR, hb⟩ := hrow p hp
        obtain ⟨b, r⟩ := p
        cases b
        all_goals
          refine e_va (x := "row") (i := 2) ⟨rfl, by walk_at "vis", by decide, by decide⟩ fun va2 => ?_
          refine e_va (x := "columns") (i := 0) ⟨rfl, by walk_at "vis", by decide, by decide⟩ fun va0 => ?_
          refine e_kn (h_cells.kn rfl rfl rfl rfl rfl rfl (by decide)) fun kn_cells => ?_
          simp only [rowD]
          walk_at "tv"
          first
            | exact ⟨r, cs, .inl rfl, hR, hcz, rfl, rfl⟩
            | exact ⟨r, cs, .inr (.inl rfl), hR, hcz, rfl, rfl⟩
            | exact ⟨r, cs, .inr (.inr rfl), hR, hcz, rfl, rfl⟩
            | exact absurd (hb rfl) (fun e => nomatch e)
      · refine wa_nil (wc_all (bs := rws.map fun _ => true) rfl (.inl (by rw [List.map_map]; rfl)) ?_)
        rw [all_true]
        walk_at "tv"
        exact Ret.of hk

/-! ### a table made -/
structure TC (K : PySem.W.Frag) (C : Addr) : Prop where
  cl : Cls K C
  columns : NoAttr K C "columns"
  rows : NoAttr K C "rows"
def tabF (cs : List Col) (rs : List (List D)) : List (Str × D) := [("columns", .tup (cs.map colD)), ("rows", .tup (rs.map .tup))]
def sTab (C : Addr) : SpD := fun ds O k _ => ∃ (p : Addr) (ct rt : Bool) (cs : List Col) (rws : List (Bool × List D)), ds = [.own p, seqD ct (cs.map colD), seqD rt (rws.map rowD)] ∧ TOk ct cs rws ∧ O p = some (.ins C []) ∧ k .non (put O p (.ins C (tabF cs (rws.map (·.2)))))
theorem pm_tab {C : Addr} (Dd : Di K C "Table.__init__" s_Table___init__ p_Table___init__) (hx : mg "Table" = some (.ref C)) (c : TC K C) (h_first : Pm P w K mg base "_first_wrong" 4 sFirstT) (b_tuple : mg "tuple" = none) : Pc P w K mg base "Table" C 5 (sTab C) := by
  refine Pc.of Dd hx sc_Table___init__ (fun ds O k kx h => by obtain ⟨_, _, _, _, _, h, _⟩ := h; rw [h]; rfl) (fun f cdv A outer s H E hg hr ds O k kx hS => ?_)
  obtain ⟨p, ct, rt, cs, rws, hds, ok, hp, hk⟩ := hS
  obtain ⟨cl, a1, a2⟩ := c
  have hz : rws.length ≤ 1000 := Nat.le_trans ok.sz (by decide)
  cases ct <;> cases rt
  all_goals
    simp only [seqD, if_true, if_false, Bool.false_eq_true] at hds
    subst hds
    refine with_va (x := "self") (i := 0) ⟨rfl, by walk_at "vis", by decide, by decide⟩ fun va0 => ?_
    refine with_va (x := "columns") (i := 1) ⟨rfl, by walk_at "vis", by decide, by decide⟩ fun va1 => ?_
    refine with_va (x := "rows") (i := 2) ⟨rfl, by walk_at "vis", by decide, by decide⟩ fun va2 => ?_
    refine with_va (x := "word") (i := 3) ⟨rfl, by walk_at "vis", by decide, by decide⟩ fun va3 => ?_
    refine with_vs (x := "word") (i := 3) ⟨sc_Table___init__.nd, rfl, by walk_at "loc", .inl rfl⟩ fun vs3 => ?_
    refine with_bt (x := "tuple") (T := "tuple") ⟨rfl, b_tuple, by decide +kernel, by decide, by decide⟩ fun bt_tuple => ?_
    refine with_kn (h_first.kn rfl rfl rfl rfl rfl rfl (by decide)) fun kn_first => ?_
    walk_at "body"
    walk_at "tv"
    first
      | refine ⟨false, false, cs, rws, rfl, ok, ?_⟩
      | refine ⟨false, true, cs, rws, rfl, ok, ?_⟩
      | refine ⟨true, false, cs, rws, rfl, ok, ?_⟩
      | refine ⟨true, true, cs, rws, rfl, ok, ?_⟩
    walk_at "tv"
    first
      | refine wc_tupL sq_lst ?_
      | refine wc_tupT ?_
    walk_at "tv"
    refine we_lc [("row", 4)] (.nm 4) rfl sc_Table___init__.nd rfl (.inl rfl) (fun _ => rfl) (fun s0 H0 C0 cl0 fp0 => pg_name (i := 4) sc_Table___init__.nd rfl (Or.inl rfl) (Or.inr rfl)) (by decide) ?_
    first
      | refine it_list ?_
        walk_at "tv"
        refine ⟨_, .inl rfl, ?_⟩
      | refine it_tup ?_
        walk_at "tv"
    refine lc_mapL rws rowD (fun p => .tup p.2) hz (fun p hp O2 ag => ⟨_, rfl, fun s0 H0 C0 cl0 fp0 => ?_⟩) ?_
    · obtain ⟨b, r⟩ := p
      cases b
      all_goals
        refine e_va (x := "row") (i := 4) ⟨rfl, by walk_at "vis", by decide, by decide⟩ fun va2 => ?_
        refine e_bt (x := "tuple") (T := "tuple") ⟨rfl, b_tuple, by decide +kernel, by decide, by decide⟩ fun bt_tuple => ?_
        simp only [rowD]
        walk_at "tv"
        first
          | refine wc_tupL sq_lst ?_
          | refine wc_tupT ?_
        exact ⟨rfl, rfl⟩
    · walk_at "tv"
      refine wc_tupL sq_lst ?_
      walk_at "tv"
      refine Ret.of ?_
      simp only [put_put]
      have e : rws.map (fun p => D.tup p.2) = (rws.map (·.2)).map D.tup := by
        rw [List.map_map]
        rfl
      rw [e]
      exact hk
/-! ### tables compared, shown, told -/
theorem add_tl (a b : Str) : (a ++ b).cps.toList = a.cps.toList ++ b.cps.toList := by
  show (a.cps ++ b.cps).toList = _
  exact Array.toList_append
theorem len_add (a b : Str) : (a ++ b).length = a.length + b.length := by rw [zlen, zlen, zlen, add_tl, List.length_append]
theorem sum_le {ys : List Str} {m : Nat} (h : ∀ y ∈ ys, y.length ≤ m) : (ys.map (·.length)).sum ≤ ys.length * m := by
  induction ys with
  | nil => simp
  | cons y ys ih =>
    have a := h y List.mem_cons_self
    have b := ih fun z hz => h z (List.mem_cons_of_mem _ hz)
    rw [List.map_cons, List.sum_cons, List.length_cons, Nat.add_mul, Nat.one_mul]
    omega
/-- a datum that may be compared and shown -/
structure Shw (d : D) (n m : Nat) : Prop where
  py : d.isPy = true
  sh : d.py.showable = true
  lay : d.py.canLay0 = true
  dp : d.py.depth ≤ n
  ln : d.py.shown.length ≤ m
theorem Shw.shaped {d : D} {n m : Nat} (h : Shw d n m) (hn : n ≤ 64) : SeqAt.shaped d.py = true := by
  unfold SeqAt.shaped
  rw [h.lay, decide_eq_true (Nat.le_trans h.dp hn)]
  rfl
theorem Shw.self {d : D} {n m : Nat} (h : Shw d n m) : PyData.eqv d.py d.py = true := SeqAt.eqv_refl_plain _ (PyData.plain_of_canLay0 _ h.lay)
theorem shw_pys {n m : Nat} : ∀ {ds : List D}, (∀ d ∈ ds, Shw d n m) → D.arePy ds = true ∧ PyData.showableAll (D.pys ds) = true ∧ PyData.canLayAll0 (D.pys ds) = true ∧ PyData.depthAll (D.pys ds) ≤ n ∧ (∀ z ∈ PyData.shownAll (D.pys ds), z.length ≤ m) ∧ (PyData.shownAll (D.pys ds)).length = ds.length
  | [], _ => ⟨rfl, rfl, rfl, Nat.zero_le _, fun z hz => (by cases hz), rfl⟩
  | d :: ds, h => by
    obtain ⟨h1, h2, h3, h4, h5⟩ := h d List.mem_cons_self
    obtain ⟨g1, g2, g3, g4, g5, g6⟩ := shw_pys fun e he => h e (List.mem_cons_of_mem _ he)
    rw [D.arePy, D.pys, PyData.showableAll, PyData.canLayAll0, PyData.depthAll, PyData.shownAll, h1, h2, h3, g1, g2, g3]
    refine ⟨rfl, rfl, rfl, Nat.max_le.mpr ⟨h4, g4⟩, fun z hz => ?_, by rw [List.length_cons, List.length_cons, g6]⟩
    rcases List.mem_cons.mp
        hz with rfl | hz
    · exact h5
    · exact g5 z hz
theorem join_le {sep : Str} {ys : List Str} {m : Nat} (h : ∀ y ∈ ys, y.length ≤ m) : (Str.join sep ys).length ≤ ys.length * m + ys.length * sep.length := Nat.le_trans (StrLaws.join_length_le sep ys) (Nat.add_le_add_right (sum_le h) _)
theorem shw_tup {n m k : Nat} {ds : List D} (h : ∀ d ∈ ds, Shw d n m) (hk : ds.length * m + ds.length * 2 + 3 ≤ k) : Shw (.tup ds) (n + 1) k := by
  obtain ⟨g1, g2, g3, g4, g5, g6⟩ := shw_pys h
  refine ⟨by rw [D.isPy]; exact g1, by rw [D.py, PyData.showable]; exact g2, by rw [D.py, PyData.canLay0]; exact g3, by rw [D.py, PyData.depth]; omega, ?_⟩
  rw [D.py, PyData.shown]
  unfold tupleText
  rw [len_add, len_add]
  have j := join_le (sep := ", ") g5
  rw [g6] at j
  have e1 : (Str.ofString "(").length = 1 := rfl
  have e2 : (Str.ofString ", ").length = 2 := rfl
  have e3 : (Str.ofString (if ((PyData.shownAll (D.pys ds)).length == 1) = true then ",)" else ")")).length ≤ 2 := by
    split
    · exact Nat.le_refl _
    · exact Nat.le_succ _
  rw [e2] at j
  omega
theorem shw_str {z : Str} (h : As z) (hz : z.length ≤ 12) : Shw (.str z) 0 60 := by
  refine ⟨rfl, rfl, ?_, Nat.le_refl _, ?_⟩
  · show PyData.strOk z = true
    unfold PyData.strOk
    rw [Array.all_eq_true']
    intro c hc
    have := h c (Array.mem_toList_iff.mpr hc)
    exact decide_eq_true (by
        omega)
  · show (reprText z).length ≤ 60
    have := repr_as h
    omega
theorem small_log {n : Int} (h : numB n = true) : n.natAbs.log2 < 1920 := by
  unfold numB at h
  simp only [Bool.and_eq_true,
      decide_eq_true_eq] at h
  by_cases z : n.natAbs = 0
  · rw [z]; decide
  · have h2 : n.natAbs < 2 ^ 20 := by omega
    have := (Nat.log2_lt z).mpr h2
    omega
theorem num_tl {n : Int} : (Str.ofString (toString n)).cps.toList = (if n < 0 then [45] else []) ++ (Nat.toDigits 10 n.natAbs).map Char.toNat := by
  cases n with
  | ofNat m => exact PySem.W.KIN.signs_num m
  | negSucc m =>
    rw [if_pos (Int.negSucc_lt_zero m)]
    exact neg_tl m
theorem num_len {n : Int} (h : numB n = true) : (Str.ofString (toString n)).length ≤ 8 := by
  unfold numB at h
  simp only [Bool.and_eq_true,
      decide_eq_true_eq] at h
  rw [zlen, num_tl, List.length_append, List.length_map]
  have h1 : (Nat.toDigits 10 n.natAbs).length ≤ 7 := toDigits_len_pow (by decide) (by decide) (by omega)
  split <;> simp <;> omega
theorem shw_num {n : Int} (h : numB n = true) : Shw (.int n) 0 60 := by
  refine ⟨rfl, decide_eq_true (small_log h), rfl, Nat.le_refl _, ?_⟩
  have l := num_len h
  show (Str.ofString (toString n)).length ≤ 60
  omega
theorem shw_non : Shw .non 0 60 := ⟨rfl, rfl, rfl, Nat.le_refl _, by decide +kernel⟩
theorem sign_cases (z : Str) : ∀ c ∈ z.cps.toList, c = 32 ∨ c ∈ (Txt.rstripChars z " ").cps.toList := by
  rw [rstrip_tl]
  generalize z.cps.toList = l
  intro c hc
  unfold rs
  rw [List.mem_reverse]
  have key : ∀ m : List Nat, ∀ c ∈ m, c = 32 ∨ c ∈ m.dropWhile b32 := fun m => by
    induction m with
    | nil => intro c h; cases h
    | cons a m ih =>
      intro c h
      rw [List.dropWhile_cons]
      by_cases q : b32 a = true
      · rw [if_pos q]
        rcases List.mem_cons.mp
            h with rfl | h
        · exact .inl (by simpa [b32] using q)
        · exact ih c h
      · rw [if_neg q]
        exact .inr h
  exact key l.reverse c (List.mem_reverse.mpr hc)
/-- signs of a text of a table -/
theorem txt_as {z : Str} (h : txtB z = true) : As z ∧ z.length ≤ 10 := by
  unfold txtB at h
  simp only [Bool.and_eq_true, decide_eq_true_eq, List.all_eq_true] at h
  refine ⟨fun c hc => ?_, h.1⟩
  rcases sign_cases z c hc with e | e
  · omega
  · have := h.2 c e
    have key : ∀ c ∈ letS.cps.toList, c < 128 := by decide +kernel
    exact key c this
theorem shw_cell {s : Str} {d : D} (h : CellOk s d) : Shw d 0 60 := by
  rcases h with rfl | ⟨_, z, rfl, _, ht⟩ | ⟨_, n, rfl, hn⟩
  · exact shw_non
  · have := txt_as ht
    exact shw_str this.1 (by omega)
  · exact shw_num hn
theorem shw_row {cs : List Col} {r : List D} (h : RowOk cs r) (hc : cs.length ≤ 10) : Shw (.tup r) 1 1000 := by
  refine shw_tup (n := 0) (m := 60) (fun d hd => ?_) (by have := h.1; omega)
  obtain ⟨i, hi⟩ := List.mem_iff_getElem?.mp hd
  have lt := (List.getElem?_eq_some_iff.mp hi).1
  have lt2 : i < cs.length := by rw [← h.1]; exact lt
  exact shw_cell (h.2 (d, cs[i]) (List.mem_iff_getElem?.mpr ⟨i, List.getElem?_zip_eq_some.mpr ⟨hi, List.getElem?_eq_getElem lt2⟩⟩))
theorem shw_rows {cs : List Col} {rs : List (List D)} (h : ∀ r ∈ rs, RowOk cs r) (hc : cs.length ≤ 10) (hz : rs.length ≤ 100) : Shw (.tup (rs.map .tup)) 2 200000 := by
  refine shw_tup (n := 1) (m := 1000) (fun d hd => ?_) (by rw [List.length_map]; omega)
  obtain ⟨r, hr, rfl⟩ := List.mem_map.mp hd
  exact shw_row (h r hr) hc

/-! ### texts of cells, rows, columns, tables -/
def cellS : D → Str
  | .str z => "\"" ++ z ++ "\""
  | .int n => toString n
  | _ => "-"
def colS (c : Col) : Str := c.1 ++ " " ++ c.2
def rowS (r : List D) : Str := Txt.join ", " (r.map cellS)
def colsS (cs : List Col) : Str := Txt.join ", " (cs.map colS)
def linesS (cs : List Col) (rs : List (List D)) : List Str := colsS cs :: rs.map rowS
def tabS (cs : List Col) (rs : List (List D)) : Str := Txt.join "\n" (linesS cs rs)
theorem cellS_len {s : Str} {d : D} (h : CellOk s d) : (cellS d).length ≤ 12 := by
  rcases h with rfl | ⟨_, z, rfl, _, ht⟩ | ⟨_, n, rfl, hn⟩
  · decide +kernel
  · have := (txt_as ht).2
    show ("\"" ++ z ++ "\"" : Str).length ≤ 12
    rw [len_add, len_add]
    show 1 + _ + 1 ≤ 12
    omega
  · have := num_len hn
    show (Str.ofString (toString n)).length ≤ 12
    omega
theorem rowOk_at {cs : List Col} {r : List D} (h : RowOk cs r) {d : D} (hd : d ∈ r) : ∃ s, CellOk s d := by
  obtain ⟨i, hi⟩ := List.mem_iff_getElem?.mp hd
  have lt := (List.getElem?_eq_some_iff.mp hi).1
  have lt2 : i < cs.length := by rw [← h.1]; exact lt
  exact ⟨_, h.2 (d, cs[i]) (List.mem_iff_getElem?.mpr ⟨i, List.getElem?_zip_eq_some.mpr ⟨hi, List.getElem?_eq_getElem lt2⟩⟩)⟩
theorem txt_join_le {sep : Str} {ys : List Str} {m : Nat} (h : ∀ y ∈ ys, y.length ≤ m) : (Txt.join sep ys).length ≤ ys.length * m + ys.length * sep.length := by
  rw [TL.join_eq]
  exact join_le h
theorem rowS_len {cs : List Col} {r : List D} (h : RowOk cs r) (hc : cs.length ≤ 10) : (rowS r).length ≤ 140 := by
  have j := txt_join_le (sep := ", ") (ys := r.map cellS) (m := 12) fun y hy => by
    obtain ⟨d, hd, rfl⟩ := List.mem_map.mp hy
    obtain ⟨s, hs⟩ := rowOk_at h hd
    exact cellS_len hs
  rw [List.length_map] at j
  have e2 : (Str.ofString ", ").length = 2 := rfl
  rw [e2] at j
  have := h.1
  unfold rowS
  omega
theorem colS_len {cs : List Col} (h : COk cs) {c : Col} (hc : c ∈ cs) : (colS c).length ≤ 2001 := by
  have := h.wd c hc
  unfold colS
  rw [len_add, len_add]
  show _ + 1 + _ ≤ _
  omega
theorem colsS_len {cs : List Col} (h : COk cs) : (colsS cs).length ≤ 21000 := by
  have j := txt_join_le (sep := ", ") (ys := cs.map colS) (m := 2001) fun y hy => by
    obtain ⟨c, hc, rfl⟩ := List.mem_map.mp hy
    exact colS_len h hc
  rw [List.length_map] at j
  have e2 : (Str.ofString ", ").length = 2 := rfl
  rw [e2] at j
  have := h.sz
  unfold colsS
  omega
theorem linesS_len {cs : List Col} {rs : List (List D)} (h : COk cs) (hr : ∀ r ∈ rs, RowOk cs r) : ∀ y ∈ linesS cs rs, y.length ≤ 21000 := fun y hy => by
  rcases List.mem_cons.mp
      hy with rfl | hy
  · exact colsS_len h
  · obtain ⟨r, hr1, rfl⟩ := List.mem_map.mp hy
    have := rowS_len (hr r hr1) h.sz
    omega
theorem tabS_len {cs : List Col} {rs : List (List D)} (h : COk cs) (hr : ∀ r ∈ rs, RowOk cs r) (hz : rs.length ≤ 100) : (tabS cs rs).length ≤ 2200000 := by
  have j := txt_join_le (sep := "\n") (linesS_len h hr)
  have e1 : (Str.ofString "\n").length = 1 := rfl
  have e2 : (linesS cs rs).length = rs.length + 1 := by
    unfold linesS
    rw [List.length_cons, List.length_map]
  rw [e1, e2] at j
  unfold tabS
  omega
/-- what a join asks of its parts -/
theorem join_room {sep : Str} {ys : List Str} {m : Nat} (h : ∀ y ∈ ys, y.length ≤ m) (hz : ys.length * m + ys.length * sep.length ≤ 16777216) : (ys.map (·.length)).sum + ys.length * sep.length ≤ 16777216 := Nat.le_trans (Nat.add_le_add_right (sum_le h) _) hz
/-! ### the program's texts of tables -/
abbrev s_cell_text : Stmt := top 24
abbrev n_cell_text : List Str := ["cell"]
abbrev p_cell_text : List Str := ["cell"]
theorem sc_cell_text : FnScope n_cell_text p_cell_text (defScope s_cell_text) := ⟨rfl, rfl, rfl, by decide +kernel, rfl, by decide +kernel, by decide +kernel⟩
abbrev s__columns_text : Stmt := top 32
abbrev n__columns_text : List Str := ["columns", "name", "sort"]
abbrev p__columns_text : List Str := ["columns"]
theorem sc__columns_text : FnScope n__columns_text p__columns_text (defScope s__columns_text) := ⟨rfl, rfl, rfl, by decide +kernel, rfl, by decide +kernel, by decide +kernel⟩
abbrev s__row_text : Stmt := top 33
abbrev n__row_text : List Str := ["row", "cell"]
abbrev p__row_text : List Str := ["row"]
theorem sc__row_text : FnScope n__row_text p__row_text (defScope s__row_text) := ⟨rfl, rfl, rfl, by decide +kernel, rfl, by decide +kernel, by decide +kernel⟩
abbrev s_Table___str__ : Stmt := inClass (top 29) 8
abbrev n_Table___str__ : List Str := ["self", "row"]
abbrev p_Table___str__ : List Str := ["self"]
theorem sc_Table___str__ : FnScope n_Table___str__ p_Table___str__ (defScope s_Table___str__) := ⟨rfl, rfl, rfl, by decide +kernel, rfl, by decide +kernel, by decide +kernel⟩
abbrev s_Table___eq__ : Stmt := inClass (top 29) 7
abbrev n_Table___eq__ : List Str := ["self", "other"]
abbrev p_Table___eq__ : List Str := ["self", "other"]
theorem sc_Table___eq__ : FnScope n_Table___eq__ p_Table___eq__ (defScope s_Table___eq__) := ⟨rfl, rfl, rfl, by decide +kernel, rfl, by decide +kernel, by decide +kernel⟩
section
variable {X : Cx} {Γ : Sg} {O : Ow} {k : KD} {kx : KX}
theorem str_eq {x y : Str} (e : x = y) (h : k (.str y) O) : k (.str x) O := e ▸ h
theorem emp_add (x : Str) : Str.empty ++ x = x := str_ext (by rw [add_tl]; rfl)
end
local macro_rules | `(tactic| walk_at "t1") => `(tactic| first
  | ((with_reducible refine' we_gd ?g ?_); (case g => assumption))
  | ((with_reducible refine' wc_lenS ?h ?_); (case h => assumption))
  | (with_reducible refine' we_joined ?_)
  | (with_reducible refine' wj_nil ?_)
  | (with_reducible refine' wj_cons ?_)
  | (with_reducible refine' we_fmt ?_)
  | ((with_reducible refine' wc_strI ?h ?_); (case h => assumption))
  | walk_at "s1")
local macro_rules | `(tactic| walk_at "tv") => `(tactic| repeat' (walk_at "t1"))
local macro_rules | `(tactic| walk_at "tvl") => `(tactic| repeat' (first | walk_at "t1" | (with_reducible refine' we_lst ?_)))
def sCellTxt : SpD := fun ds O k _ => ∃ (d : D) (s : Str), ds = [d] ∧ CellOk s d ∧ k (.str (cellS d)) O
theorem pm_cellTxt (Dd : Df K mg "cell_text" s_cell_text p_cell_text) (b_isi : mg "isinstance" = none) (b_str : mg "str" = none) : Pm P w K mg base "cell_text" 1 sCellTxt := by
  refine Pm.of Dd sc_cell_text (fun ds O k kx h => by obtain ⟨_, _, h, _⟩ := h; rw [h]; rfl) (fun f cdv A outer s H E hg hr ds O k kx hS => ?_)
  obtain ⟨d, so, rfl, hc, hk⟩ := hS
  have hl := cellS_len hc
  rcases hc with rfl | ⟨rfl, z, rfl, hz, ht⟩ | ⟨hs, n, rfl, hn⟩
  all_goals
    refine with_va (x := "cell") (i := 0) ⟨rfl, by walk_at "vis", by decide, by decide⟩ fun va0 => ?_
    refine with_bn (x := "isinstance") (id := "isinstance") ⟨rfl, b_isi, by decide +kernel, by decide, by decide⟩ fun bn_isi => ?_
    refine with_bt (x := "str") (T := "str") ⟨rfl, b_str, by decide +kernel, by decide, by decide⟩ fun bt_str => ?_
    walk_at "body"
  · walk_at "tv"
    exact Ret.of hk
  · have hz10 := (txt_as ht).2
    have q : ("\"" : Str).length = 1 := rfl
    walk_at "tv"
    refine .inl ⟨z, rfl, Nat.le_trans hz (by decide), z, rfl, by rw [emp_add, len_add, q, sizeLine_eq]; omega, ?_⟩
    walk_at "tv"
    refine ⟨by rw [emp_add, len_add, len_add, q, sizeLine_eq]; omega, ?_⟩
    walk_at "tv"
    exact Ret.of (str_eq (by rw [emp_add]; rfl) hk)
  · have hlog := small_log hn
    walk_at "tv"
    exact Ret.of hk
def sRowTxt : SpD := fun ds O k _ => ∃ (cs : List Col) (r : List D), ds = [.tup r] ∧ RowOk cs r ∧ cs.length ≤ 10 ∧ k (.str (rowS r)) O
theorem pm_rowTxt (Dd : Df K mg "_row_text" s__row_text p__row_text) (h_cell : Pm P w K mg base "cell_text" 1 sCellTxt) : Pm P w K mg base "_row_text" 2 sRowTxt := by
  refine Pm.of Dd sc__row_text (fun ds O k kx h => by obtain ⟨_, _, h, _⟩ := h; rw [h]; rfl) (fun f cdv A outer s H E hg hr ds O k kx hS => ?_)
  obtain ⟨cs, r, rfl, hR, hz, hk⟩ := hS
  refine with_va (x := "row") (i := 0) ⟨rfl, by walk_at "vis", by decide, by decide⟩ fun va0 => ?_
  walk_at "body"
  walk_at "tv"
  refine we_lc [("cell", 1)] (.nm 1) rfl sc__row_text.nd rfl (.inl rfl) (fun _ => rfl) (fun s0 H0 C0 cl0 fp0 => pg_name (i := 1) sc__row_text.nd rfl (Or.inl rfl) (Or.inr rfl)) (by decide) ?_
  refine it_tup ?_
  walk_at "tv"
  have e : r = r.map id := (List.map_id r).symm
  have hl := hR.1
  rw [e]
  refine lc_mapL r id (fun d => .str (cellS d)) (by omega) (fun d hd O2 ag => ⟨_, rfl, fun s0 H0 C0 cl0 fp0 => ?_⟩) ?_
  · refine e_va (x := "cell") (i := 1) ⟨rfl, by walk_at "vis", by decide, by decide⟩ fun va1 => ?_
    refine e_kn (h_cell.kn rfl rfl rfl rfl rfl rfl (by decide)) fun kn_cell => ?_
    walk_at "tv"
    obtain ⟨so, hs⟩ := rowOk_at hR hd
    exact ⟨d, so, rfl, hs, rfl, rfl⟩
  · refine wa_nil (wm_join (ys := r.map cellS) (.inl (by rw [List.map_map]; rfl)) (join_room (m := 12) (fun y hy => ?_) ?_) (Ret.of hk))
    · obtain ⟨d, hd, rfl⟩ := List.mem_map.mp hy
      obtain ⟨s, hs⟩ := rowOk_at hR hd
      exact cellS_len hs
    · rw [List.length_map]
      have e2 : (Str.ofString ", ").length = 2 := rfl
      rw [e2]
      omega
def sColsTxt : SpD := fun ds O k _ => ∃ cs : List Col, ds = [.tup (cs.map colD)] ∧ COk cs ∧ k (.str (colsS cs)) O
theorem pm_colsTxt (Dd : Df K mg "_columns_text" s__columns_text p__columns_text) : Pm P w K mg base "_columns_text" 1 sColsTxt := by
  refine Pm.of Dd sc__columns_text (fun ds O k kx h => by obtain ⟨_, h, _⟩ := h; rw [h]; rfl) (fun f cdv A outer s H E hg hr ds O k kx hS => ?_)
  obtain ⟨cs, rfl, co, hk⟩ := hS
  refine with_va (x := "columns") (i := 0) ⟨rfl, by walk_at "vis", by decide, by decide⟩ fun va0 => ?_
  walk_at "body"
  walk_at "tv"
  refine we_lc [("name", 1), ("sort", 2)] (.tup [.nm 1, .nm 2]) rfl sc__columns_text.nd rfl (.inl rfl) (fun _ => rfl) (fun s0 H0 C0 cl0 fp0 => pg_tup rfl (pgs_cons (pg_name (i := 1) sc__columns_text.nd rfl (Or.inl rfl) (Or.inr rfl)) (pgs_cons (pg_name (i := 2) sc__columns_text.nd rfl (Or.inl rfl) (Or.inr rfl)) pgs_nil))) (by decide) ?_
  refine it_tup ?_
  walk_at "tv"
  refine lc_mapL cs colD (fun c => .str (colS c)) (Nat.le_trans co.sz (by decide)) (fun c hc O2 ag => ⟨_, rfl, fun s0 H0 C0 cl0 fp0 => ?_⟩) ?_
  · refine e_va (x := "name") (i := 1) ⟨rfl, by walk_at "vis", by decide, by decide⟩ fun va1 => ?_
    refine e_va (x := "sort") (i := 2) ⟨rfl, by walk_at "vis", by decide, by decide⟩ fun va2 => ?_
    obtain ⟨l1, l2⟩ := co.wd c hc
    have q : (" " : Str).length = 1 := rfl
    walk_at "tv"
    refine .inl ⟨c.1, rfl, Nat.le_trans l1 (by decide), c.1, rfl, by rw [emp_add, sizeLine_eq]; omega, ?_⟩
    walk_at "tv"
    refine ⟨by rw [emp_add, len_add, q, sizeLine_eq]; omega, ?_⟩
    walk_at "tv"
    refine .inl ⟨c.2, rfl, Nat.le_trans l2 (by decide), c.2, rfl, by rw [emp_add, len_add, len_add, q, sizeLine_eq]; omega, ?_⟩
    walk_at "tv"
    exact ⟨rfl, by rw [emp_add]; rfl⟩
  · refine wa_nil (wm_join (ys := cs.map colS) (.inl (by rw [List.map_map]; rfl)) (join_room (m := 2001) (fun y hy => ?_) ?_) (Ret.of hk))
    · obtain ⟨c, hc, rfl⟩ := List.mem_map.mp hy
      exact colS_len co hc
    · rw [List.length_map]
      have e2 : (Str.ofString ", ").length = 2 := rfl
      have := co.sz
      rw [e2]
      omega
/-! ### a table's own methods -/
section
variable {X : Cx} {O : Ow} {k : KD} {C : Addr}
/-- what isinstance and != ask of the class -/
structure InsF (K : PySem.W.Frag) (C : Addr) : Prop where
  cl : Cls K C
  ha : PySem.W.findIn K (.ref C) "__class__" = some (some
      (.builtin "object.__class__"))
  hn : PySem.W.specialIn K (.builtin "object.__class__") "__get__" = some (some
      (.builtin "getset_descriptor.__get__"))
  ht : PySem.W.takesIn K (.builtin
      "object.__class__") = some true
  hm : PySem.W.mroIn K C (.type
      "object") = some true
  me : PySem.W.kitOne K (.ref
      C) (.ref C) = some true
  ne : PySem.W.findIn K (.ref C) "__ne__" = some (some (.builtin "object.__ne__"))
/-- isinstance(x, C), x an instance of the class at C -/
theorem wc_isiC {x : D} {fds : List (Str × D)} (hx : InD O x C fds) (F : InsF X.K C) (h : k (.bl true) O) : DL.WC X (.builtin "isinstance") [x, .own C] O k := fun vs L H is hr Q q => by
  obtain ⟨v, u, rfl, a, c⟩ := is.two'
  obtain rfl := c.own'
  obtain ⟨p, dx, fs, rfl, ha, _, _⟩ := inD_of hr hx a
  exact toC call_isi ⟨.ref p, .ref C, .ref C, .ref C, true, rfl, .own C, .base (.ins ha F.cl F.ha F.hn F.ht F.hm), F.me, q _ _ _ _ _ h (.refl L) (.bl _) hr⟩
end
local macro_rules | `(tactic| walk_at "t1") => `(tactic| first
  | ((with_reducible refine' we_gd ?g ?_); (case g => assumption))
  | walk_at "s1")
local macro_rules | `(tactic| walk_at "tv") => `(tactic| repeat' (walk_at "t1"))
local macro_rules | `(tactic| walk_at "tvl") => `(tactic| repeat' (first | walk_at "t1" | (with_reducible refine' we_lst ?_)))
/-- a table that is well -/
structure TbOk (cs : List Col) (rs : List (List D)) : Prop where
  co : COk cs
  sz : rs.length ≤ 100
  row : ∀ r ∈ rs, RowOk cs r
section
variable {C : Addr}
def sTStr (C : Addr) : SpD := fun ds O k _ => ∃ (cs : List Col) (rs : List (List D)), ds = [.ins C (tabF cs rs)] ∧ TbOk cs rs ∧ k (.str (tabS cs rs)) O
theorem pm_tstr (Dd : Dm K C "__str__" "Table.__str__" s_Table___str__ p_Table___str__) (c : TC K C) (h_cols : Pm P w K mg base "_columns_text" 1 sColsTxt) (h_row : Pm P w K mg base "_row_text" 2 sRowTxt) : Pk P w K mg base C "__str__" 3 (sTStr C) := by
  refine Pk.of Dd c.cl sc_Table___str__ (fun ds O k kx h => by obtain ⟨_, _, h, _⟩ := h; rw [h]; rfl) (fun f cdv A outer s H E hg hr ds O k kx hS => ?_)
  obtain ⟨cs, rs, rfl, ⟨co, hz, hrow⟩, hk⟩ := hS
  refine with_va (x := "self") (i := 0) ⟨rfl, by walk_at "vis", by decide, by decide⟩ fun va0 => ?_
  refine with_kn (h_cols.kn rfl rfl rfl rfl rfl rfl (by decide)) fun kn_cols => ?_
  obtain ⟨cl, a1, a2⟩ := c
  walk_at "body"
  walk_at "tvl"
  refine ⟨cs, rfl, co, ?_⟩
  (with_reducible refine' wa_star ?hst ?_); (case hst => rfl)
  refine we_lc [("row", 1)] (.nm 1) rfl sc_Table___str__.nd rfl (.inl rfl) (fun _ => rfl) (fun s0 H0 C0 cl0 fp0 => pg_name (i := 1) sc_Table___str__.nd rfl (Or.inl rfl) (Or.inr rfl)) (by decide) ?_
  refine it_tup ?_
  walk_at "tv"
  refine lc_mapL rs D.tup (fun r => .str (rowS r)) (Nat.le_trans hz (by decide)) (fun r hr1 O2 ag => ⟨_, rfl, fun s0 H0 C0 cl0 fp0 => ?_⟩) ?_
  · refine e_va (x := "row") (i := 1) ⟨rfl, by walk_at "vis", by decide, by decide⟩ fun va1 => ?_
    refine e_kn (h_row.kn rfl rfl rfl rfl rfl rfl (by decide)) fun kn_row => ?_
    walk_at "tv"
    exact ⟨cs, r, rfl, hrow r hr1, co.sz, rfl, rfl⟩
  · refine ⟨_, .inl sq_lst, wa_nil ⟨?_, ?_⟩⟩
    · rw [List.append_nil, List.length_cons, List.length_map, sizeLine_eq]
      omega
    · refine wa_nil (wm_join (ys := linesS cs rs) (.inl ?_) (join_room (linesS_len co hrow) ?_) (Ret.of hk))
      · unfold linesS
        rw [List.append_nil, List.map_cons, List.map_map]
        rfl
      · unfold linesS
        rw [List.length_cons, List.length_map]
        have e1 : (Str.ofString "\n").length = 1 := rfl
        rw [e1]
        omega
/-- two tables that are well, compared -/
@[irreducible] def eqT (cs : List Col) (rs : List (List D)) (cs2 : List Col) (rs2 : List (List D)) : Bool := PyData.eqv (D.tup (cs.map colD)).py (D.tup (cs2.map colD)).py && PyData.eqv (D.tup (rs.map .tup)).py (D.tup (rs2.map .tup)).py
theorem shw_word {cs : List Col} (h : COk cs) {z : Str} (hz : ∃ c ∈ cs, z = c.1 ∨ z = c.2) : As z ∧ z.length ≤ 12 := by
  have h1 := h.ok
  unfold colsB at h1
  simp only [Bool.and_eq_true, List.all_eq_true] at h1
  obtain ⟨c, hc, e⟩ := hz
  have h2 := h1.2.1 (w2 c) (List.mem_map.mpr ⟨c, hc, rfl⟩)
  unfold w2 at h2
  rw [colB_two, Bool.and_eq_true] at h2
  rcases e with rfl | rfl
  · have h3 := h2.1
    unfold nameB at h3
    simp only [Bool.and_eq_true, decide_eq_true_eq, List.all_eq_true] at h3
    refine ⟨fun d hd => ?_, by omega⟩
    have key : ∀ d ∈ lowS.cps.toList, d < 128 := by decide +kernel
    exact key d (h3.2.2.2 d hd)
  · have h3 := h2.2
    unfold sortB inV at h3
    simp only [List.any_cons, List.any_nil, Bool.or_false, Bool.or_eq_true] at h3
    have key : c.2 = "text" ∨ c.2 = "number" := by
      rcases h3 with q | q
      · exact .inl (Eq.symm (by simpa [eqV] using q))
      · exact .inr (Eq.symm (by simpa [eqV] using q))
    rcases key with e | e <;> rw [e]
    · exact ⟨by unfold As; decide +kernel, by decide +kernel⟩
    · exact ⟨by unfold As; decide +kernel, by decide +kernel⟩
theorem shw_cols {cs : List Col} (h : COk cs) : Shw (.tup (cs.map colD)) 2 2000 := by
  refine shw_tup (n := 1) (m := 130) (fun d hd => ?_) (by have := h.sz; rw [List.length_map]; omega)
  obtain ⟨c, hc, rfl⟩ := List.mem_map.mp hd
  refine shw_tup (n := 0) (m := 60) (fun d hd => ?_) (by show 2 * 60 + 2 * 2 + 3 ≤ _; omega)
  rcases mem2 hd with rfl | rfl
  · have := shw_word h ⟨c, hc, .inl rfl⟩
    exact shw_str this.1 this.2
  · have := shw_word h ⟨c, hc, .inr rfl⟩
    exact shw_str this.1 this.2
theorem eqT_self {cs : List Col} {rs : List (List D)} (h : TbOk cs rs) : eqT cs rs cs rs = true := by
  unfold eqT
  rw [(shw_cols h.co).self, (shw_rows h.row h.co.sz h.sz).self]
  rfl
def sTEq (C : Addr) : SpD := fun ds O k _ => ∃ (cs cs2 : List Col) (rs rs2 : List (List D)), ds = [.ins C (tabF cs rs), .ins C (tabF cs2 rs2)] ∧ TbOk cs rs ∧ TbOk cs2 rs2 ∧ k (.bl (eqT cs rs cs2 rs2)) O
theorem pm_teq (Dd : Dm K C "__eq__" "Table.__eq__" s_Table___eq__ p_Table___eq__) (c : TC K C) (F : InsF K C) (gC : GlD K mg "Table" (.own C)) (b_isi : mg "isinstance" = none) : Pk P w K mg base C "__eq__" 1 (sTEq C) := by
  refine Pk.of Dd c.cl sc_Table___eq__ (fun ds O k kx h => by obtain ⟨_, _, _, _, h, _⟩ := h; rw [h]; rfl) (fun f cdv A outer s H E hg hr ds O k kx hS => ?_)
  obtain ⟨cs, cs2, rs, rs2, rfl, h1, h2, hk⟩ := hS
  refine with_va (x := "self") (i := 0) ⟨rfl, by walk_at "vis", by decide, by decide⟩ fun va0 => ?_
  refine with_va (x := "other") (i := 1) ⟨rfl, by walk_at "vis", by decide, by decide⟩ fun va1 => ?_
  refine with_bn (x := "isinstance") (id := "isinstance") ⟨rfl, b_isi, by decide +kernel, by decide, by decide⟩ fun bn_isi => ?_
  refine with_p (gC.gd (X := Bo P w K mg base n_Table___eq__ "Table.__eq__" s_Table___eq__ f cdv A outer s H E) rfl rfl rfl (by decide)) fun gd_table => ?_
  obtain ⟨cl, a1, a2⟩ := c
  walk_at "body"
  repeat' (first
    | ((with_reducible refine' we_gd ?g ?_); (case g => assumption))
    | ((with_reducible refine' wc_isiC ?x ?f ?_); (case x => exact in_ins); (case f => exact F))
    | walk_at "s1")
  refine wo_eqD hr.units (shw_cols h1.co).py (shw_cols h2.co).py ((shw_cols h1.co).shaped (by decide)) ((shw_cols h2.co).shaped (by decide)) ⟨_, rfl, iteBo (fun hb => ?_) fun hb => ?_⟩
  · walk_at "tv"
    have q1 := shw_rows h1.row h1.co.sz h1.sz
    have q2 := shw_rows h2.row h2.co.sz h2.sz
    refine wo_eqD hr.units q1.py q2.py (q1.shaped (by decide)) (q2.shaped (by decide)) (Ret.of (bl_eq ?_ hk))
    unfold eqT
    rw [hb]
    rfl
  · refine Ret.of (bl_eq ?_ hk)
    unfold eqT
    rw [hb]
    rfl
end
/-! ### cells read -/
abbrev s_is_quoted : Stmt := top 25
abbrev n_is_quoted : List Str := ["word"]
abbrev p_is_quoted : List Str := ["word"]
theorem sc_is_quoted : FnScope n_is_quoted p_is_quoted (defScope s_is_quoted) := ⟨rfl, rfl, rfl, by decide +kernel, rfl, by decide +kernel, by decide +kernel⟩
abbrev s_is_decimal : Stmt := top 26
abbrev n_is_decimal : List Str := ["word", "digits", "sign"]
abbrev p_is_decimal : List Str := ["word"]
theorem sc_is_decimal : FnScope n_is_decimal p_is_decimal (defScope s_is_decimal) := ⟨rfl, rfl, rfl, by decide +kernel, rfl, by decide +kernel, by decide +kernel⟩
abbrev s_read_cell : Stmt := top 27
abbrev n_read_cell : List Str := ["word", "sort", "at"]
abbrev p_read_cell : List Str := ["word", "sort", "at"]
theorem sc_read_cell : FnScope n_read_cell p_read_cell (defScope s_read_cell) := ⟨rfl, rfl, rfl, by decide +kernel, rfl, by decide +kernel, by decide +kernel⟩
section
open PySem.NumText PySem.W.KIN
abbrev digS : Str := "0123456789"
theorem starts1 (z : Str) (c : Nat) : Txt.startswith z ⟨#[c]⟩ = decide (z.cps.toList.head? = some c) := by
  unfold Txt.startswith
  rw [StrLaws.subAt_eq, List.drop_zero, zlen z]
  have e : (⟨#[c]⟩ : Str).length = 1 := rfl
  rw [e]
  cases z.cps.toList with
  | nil => rfl
  | cons a l =>
    show (decide (0 + 1 ≤ l.length + 1) && ([a] == [c])) = decide (some a = some c)
    rw [decide_eq_true (show 0 + 1 ≤ l.length + 1 by omega), Bool.true_and]
    by_cases h : a = c <;> simp [h]
theorem ends1 (z : Str) (c : Nat) : Txt.endswith z ⟨#[c]⟩ = decide (z.cps.toList.getLast? = some c) := by
  unfold Txt.endswith
  rw [StrLaws.subAt_eq, zlen z]
  have e : (⟨#[c]⟩ : Str).length = 1 := rfl
  rw [e]
  generalize z.cps.toList = l
  rcases List.eq_nil_or_concat l with rfl | ⟨m, a, rfl⟩
  · rfl
  · rw [List.concat_eq_append, List.length_append, List.length_singleton, Nat.add_sub_cancel, List.drop_left, List.getLast?_append]
    show (decide (0 + 1 ≤ m.length + 1) && ([a] == [c])) = decide (some a = some c)
    rw [decide_eq_true (show 0 + 1 ≤ m.length + 1 by omega), Bool.true_and]
    by_cases h : a = c <;> simp [h]
theorem rmpre1 (z : Str) (c : Nat) : (Txt.removeprefix z ⟨#[c]⟩).cps.toList = if z.cps.toList.head? = some c then z.cps.toList.tail else z.cps.toList := by
  rw [StrLaws.removeprefix_eq, StrLaws.subAt_eq, List.drop_zero, zlen z]
  have e : (⟨#[c]⟩ : Str).length = 1 := rfl
  rw [e]
  cases h : z.cps.toList with
  | nil => simp [h]
  | cons a l =>
    by_cases q : a = c
    · rw [if_pos (by simp [q]), if_pos (by simp [q])]
      show List.take (l.length + 1 - 1) l = l
      simp
    · rw [if_neg (by simp [q]), if_neg (by simp [q])]
      exact h

/-! ### what is read of a cell's text -/
@[irreducible] def quotB (z : Str) : Bool := decide (2 ≤ z.length) && (Txt.startswith z "\"" && (Txt.endswith z "\"" && txtB (cutS z (some 1) (some (-1)))))
/-- the digits, and the number they tell -/
def digL (z : Str) : List Nat := if z.cps.toList.head? = some 45 then z.cps.toList.tail else z.cps.toList
def decN (z : Str) : Int := if z.cps.toList.head? = some 45 then -((digitsVal (digL z) : Nat) : Int) else ((digitsVal (digL z) : Nat) : Int)
@[irreducible] def decB (z : Str) : Bool := decide (1 ≤ (digL z).length) && (decide ((digL z).length ≤ 7) && (((digL z).all fun c => decide (c ∈ digS.cps.toList)) && (numB (decN z) && decide ((toString (decN z) : Str) = z))))
@[irreducible] def cellR (s z : Str) : Option D := if z = "-" then some .non else if s = "text" ∧ quotB z = true then some (.str (cutS z (some 1) (some (-1)))) else if s = "number" ∧ decB z = true then some (.int (decN z)) else none
theorem dig_ok {l : List Nat} (h : (l.all fun c => decide (c ∈ digS.cps.toList)) = true) : AllDigits l := fun c hc => by
  have := List.all_eq_true.mp h c hc
  have key : ∀ c ∈ digS.cps.toList, 48 ≤ c ∧ c ≤ 57 := by decide +kernel
  exact key c (of_decide_eq_true this)
theorem dec_reads {z : Str} (h1 : 1 ≤ (digL z).length) (h2 : (digL z).length ≤ 7) (h : ((digL z).all fun c => decide (c ∈ digS.cps.toList)) = true) : PySem.intText? z = some (decN z) ∧ z.length ≤ 8 := by
  have hd := dig_ok h
  unfold decN
  unfold digL at hd h1 h2 ⊢
  by_cases q : z.cps.toList.head? = some 45
  · rw [if_pos q] at hd h1 h2 ⊢
    rw [if_pos q]
    cases hz : z.cps.toList with
    | nil => rw [hz] at h1; simp at h1
    | cons a l =>
      rw [hz] at q hd h1 h2
      obtain rfl : a = 45 := Option.some.inj q
      have hl : z.length ≤ 8 := by
        rw [zlen, hz]
        have : l.length ≤ 7 := h2
        show l.length + 1 ≤ 8
        omega
      exact ⟨intText_neg hz hd (fun e => by have h3 : 1 ≤ l.length := h1; have e2 : l = [] := e; rw [e2] at h3; simp at h3) (Nat.le_trans hl (by decide)), hl⟩
  · rw [if_neg q] at hd h1 h2 ⊢
    rw [if_neg q]
    have hl : z.length ≤ 8 := by rw [zlen]; omega
    exact ⟨intText_digits hd (fun e => by rw [e] at h1; simp at h1) (Nat.le_trans hl (by decide)), hl⟩
/-- a cell's text is read back -/
theorem num_digL {n : Int} : digL (toString n : Str) = (Nat.toDigits 10 n.natAbs).map Char.toNat := by
  unfold digL
  rw [num_tl]
  by_cases h : n < 0
  · rw [if_pos h]
    rfl
  · rw [if_neg h]
    have ne : ([] ++ (Nat.toDigits 10 n.natAbs).map Char.toNat).head? ≠ some 45 := fun e => by
      rw [List.nil_append] at e
      cases q : (Nat.toDigits 10 n.natAbs).map Char.toNat with
      | nil => rw [q] at e; cases e
      | cons a l =>
        rw [q] at e
        have := (dig_ne q).1
        have e2 : a = 45 := Option.some.inj e
        omega
    rw [if_neg ne, List.nil_append]
theorem num_decN {n : Int} : decN (toString n : Str) = n := by
  unfold decN
  rw [num_digL, val_back]
  by_cases h : n < 0
  · have e : (toString n : Str).cps.toList.head? = some 45 := by rw [num_tl, if_pos h]; rfl
    rw [if_pos e]
    omega
  · have ne : (toString n : Str).cps.toList.head? ≠ some 45 := fun e => by
      rw [num_tl, if_neg h, List.nil_append] at e
      cases q : (Nat.toDigits 10 n.natAbs).map Char.toNat with
      | nil => rw [q] at e; cases e
      | cons a l =>
        rw [q] at e
        have := (dig_ne q).1
        have e2 : a = 45 := Option.some.inj e
        omega
    rw [if_neg ne]
    omega
theorem num_decB {n : Int} (h : numB n = true) : decB (toString n : Str) = true := by
  have h0 := h
  unfold numB at h0
  simp only [Bool.and_eq_true, decide_eq_true_eq] at h0
  have l1 : (Nat.toDigits 10 n.natAbs).length ≤ 7 := toDigits_len_pow (by decide) (by decide) (by omega)
  have l0 := toDigits_len_ge 10 n.natAbs
  unfold decB
  rw [num_decN, num_digL, List.length_map, h, decide_eq_true l0, decide_eq_true l1, decide_eq_true rfl, Bool.and_true, Bool.and_true, Bool.true_and, Bool.true_and, List.all_eq_true]
  intro c hc
  obtain ⟨ch, hch,
      e⟩ := List.mem_map.mp hc
  have r := digit_range (Nat.isDigit_of_mem_toDigits
      (by decide) (by decide) hch)
  rw [e] at r
  have key : ∀ c, c < 58 → 48 ≤ c → c ∈ digS.cps.toList := by decide +kernel
  exact decide_eq_true (key c (by omega) r.1)
theorem quo_cut (z : Str) : cutS ("\"" ++ z ++ "\"") (some 1) (some (-1)) = z := by
  refine str_ext ?_
  have e : ("\"" ++ z ++ "\"" : Str).cps.toList = 34 :: (z.cps.toList ++ [34]) := by
    rw [add_tl, add_tl]
    rfl
  have el : ("\"" ++ z ++ "\"" : Str).length = z.cps.toList.length + 2 := by
    rw [zlen, e]
    simp
  rw [cut_tl, e, el]
  have i1 : HT.sIx (z.cps.toList.length + 2) 0 (some 1) = 1 := by
    show HT.sIx _ 0 (some ((1 : Nat) : Int)) = 1
    rw [HT.sIx_nat]
    omega
  have i2 : HT.sIx (z.cps.toList.length + 2) (z.cps.toList.length + 2) (some (-1)) = z.cps.toList.length + 1 := by
    show ((-1 : Int) + ((z.cps.toList.length + 2 : Nat) : Int)).toNat = _
    omega
  rw [i1, i2]
  show List.take (z.cps.toList.length + 1 - 1) (z.cps.toList ++ [34]) = _
  rw [Nat.add_sub_cancel, List.take_left]
theorem quo_B {z : Str} (h : txtB z = true) : quotB ("\"" ++ z ++ "\"") = true := by
  have e : ("\"" ++ z ++ "\"" : Str).cps.toList = 34 :: (z.cps.toList ++ [34]) := by
    rw [add_tl, add_tl]
    rfl
  unfold quotB
  rw [quo_cut, h, show ("\"" : Str) = ⟨#[34]⟩ from rfl, starts1, ends1]
  rw [show ((⟨#[34]⟩ : Str) ++ z ++ ⟨#[34]⟩).cps.toList = 34 :: (z.cps.toList ++ [34]) from e, zlen, show ((⟨#[34]⟩ : Str) ++ z ++ ⟨#[34]⟩).cps.toList = 34 :: (z.cps.toList ++ [34]) from e]
  rw [decide_eq_true (by simp), decide_eq_true (by rfl), decide_eq_true (by rw [List.getLast?_cons]; simp)]
  rfl
theorem cell_back {s : Str} {d : D} (h : CellOk s d) (hs : s = "text" ∨ s = "number") : cellR s (cellS d) = some d := by
  unfold cellR
  rcases h with rfl | ⟨rfl, z, rfl, _, ht⟩ | ⟨hne, n, rfl, hn⟩
  · rw [if_pos (show cellS .non = "-" from rfl)]
  · have ne : ¬ cellS (.str z) = "-" := fun e => by
      have e2 : (cellS (.str z)).length = 1 := by rw [e]; rfl
      have e3 : (cellS (.str z)).length = 1 + z.length + 1 := by
        show ("\"" ++ z ++ "\"" : Str).length = _
        rw [len_add, len_add]
        rfl
      omega
    rw [if_neg ne, if_pos ⟨rfl, quo_B ht⟩]
    show some (D.str (cutS ("\"" ++ z ++ "\"") (some 1) (some (-1)))) = _
    rw [quo_cut]
  · have hs2 : s = "number" := by
      rcases hs with e | e
      · exact absurd e hne
      · exact e
    have ne : ¬ cellS (.int n) = "-" := fun e => by
      have e2 : digL (cellS (.int n)) = [] := by rw [e]; rfl
      have e3 : (digL (cellS (.int n))).length = 0 := by rw [e2]; rfl
      rw [show digL (cellS (.int n)) = _ from num_digL, List.length_map] at e3
      have := toDigits_len_ge 10 n.natAbs
      omega
    rw [if_neg ne, if_neg (fun e => hne e.1), if_pos ⟨hs2, num_decB hn⟩]
    show some (D.int (decN (toString n : Str))) = _
    rw [num_decN]
end
abbrev s__read_columns : Stmt := top 34
abbrev n__read_columns : List Str := ["line", "columns", "words"]
abbrev p__read_columns : List Str := ["line"]
theorem sc__read_columns : FnScope n__read_columns p__read_columns (defScope s__read_columns) := ⟨rfl, rfl, rfl, by decide +kernel, rfl, by decide +kernel, by decide +kernel⟩
abbrev s__read_row : Stmt := top 35
abbrev n__read_row : List Str := ["line", "columns", "at", "words", "word", "column"]
abbrev p__read_row : List Str := ["line", "columns", "at"]
theorem sc__read_row : FnScope n__read_row p__read_row (defScope s__read_row) := ⟨rfl, rfl, rfl, by decide +kernel, rfl, by decide +kernel, by decide +kernel⟩
abbrev s_Table_read : Stmt := inClass (top 29) 1
abbrev n_Table_read : List Str := ["cls", "text", "lines", "columns", "rows", "at", "line"]
abbrev p_Table_read : List Str := ["cls", "text"]
theorem sc_Table_read : FnScope n_Table_read p_Table_read (defScope s_Table_read) := ⟨rfl, rfl, rfl, by decide +kernel, rfl, by decide +kernel, by decide +kernel⟩
/-- a classmethod, where it stands -/
inductive DnC (K : PySem.W.Frag) (C : Addr) (m qual : Str) (st : Stmt) : Prop
  | mk {mc : Value} {q g : Addr} {rest : List Value} {oc : Value} {od an : Option Addr} {osl : Array (Option Value)} {kV doc pm cdv ct : Value} (rd : PySem.W.readsIn K C mc = true) (ga : PySem.W.specialIn K (.ref C) "__getattribute__" = some (some (.builtin "type.__getattribute__")))
    (fc : PySem.W.findCls K (.ref C) mc m = some (.get (.builtin "classmethod.__get__") (.ref q) .none (.ref C))) (rc : PySem.W.recIn K q "classmethod" = some (.ref g :: rest)) (fi : PySem.W.fnIn K g = true)
    (l : K.lookup g = some ⟨oc, od, .func (PySem.W.fnOf m qual (defArgs st) (defBody st) (defScope st) .none kV doc pm an cdv ct), osl⟩) (c : PySem.W.codeIn K cdv qual = true) : DnC K C m qual st
/-- a classmethod that may raise, and its promise -/
structure Pcm (P : Program) (w : World) (K : PySem.W.Frag) (mg : Str → Option Value) (base : Heap) (C : Addr) (m : Str) (j : Nat) (S : SpD) : Prop where
  ex : ∃ (mc : Value) (p g : Addr) (fd : FuncData) (ps : List Str), ClX.CRead K C mc ∧ ClX.CMet K C mc m p g ∧ FnG P w K mg base (L2.CX P w) j g fd ps (spOf K S) ∧ Binds K fd ps []
theorem Pcm.km {C : Addr} {m : Str} {j : Nat} {S : SpD} (F : Pcm P w K mg base C m j S) {X : Cx} (e1 : X.prog = P) (e2 : X.w = w) (e3 : X.K = K) (e4 : X.mg = mg) (e5 : X.base = base) : Kcm X C m j S := by
  subst e1 e2 e3 e4 e5
  exact ⟨F.ex⟩
theorem Pcm.of {C : Addr} {m qual : Str} {st : Stmt} {N ps : List Str} {j : Nat} {S : SpD} (T : DnC K C m qual st) (Sc : FnScope N ps (defScope st)) (len : ∀ ds O k kx, S ds O k kx → ds.length = ps.length)
    (b : ∀ (kV doc pm : Value) (an : Option Addr) (cdv ct : Value) (us : List Value), us.length = ps.length → bindArgs (PySem.W.fnOf m qual (defArgs st) (defBody st) (defScope st) .none kV doc pm an cdv ct) ⟨us, []⟩ = pure (ps.zip us))
    (h : ∀ (f : Addr) (cdv : Value) (A : Around) (outer : List Env) (s : Shared) (H : Hp) (E : XK), A.guards = some [] → Room j (A.deeper (envOfC qual (defScope st) s.heap.objs.size f cdv)) → ∀ L0 ds O k kx, S ds O k kx →
      Tx (Bx P w K mg base N qual st f cdv A outer s H E) L0 (fun C fds _ O' => kx C fds O') →
      WSsx (Bx P w K mg base N qual st f cdv A outer s H E) L0 (defBody st) (gst N.length ds) O { nx := fun _ O' => Ret k .non O', rt := Ret k }) : Pcm P w K mg base C m (j + 1) S := by
  cases T with
  | mk rd ga fc rc fi l c => exact ⟨_, _, _, _, ps, ⟨rd, ga⟩, ⟨fc, ⟨_, rc⟩, fi⟩, fn_bodyX (funx_mk l c) Sc len (h _), .all (b _ _ _ _ _ _)⟩
local macro_rules | `(tactic| walk_at "t1.WE") => `(tactic| first
  | ((with_reducible refine' we_gd ?g ?_); (case g => assumption))
  | ((with_reducible refine' we_bm (T := "str") (id := "str.startswith") PySem.F.plainAttrs_str PySem.F.slot_str_startswith ?a ?b ?c ?d ?e ?f ?_); (case a => rfl); (case b => rfl); (case c => rfl); (case d => rfl); (case e => rfl); (case f => rfl))
  | ((with_reducible refine' we_bm (T := "str") (id := "str.endswith") PySem.F.plainAttrs_str PySem.F.slot_str_endswith ?a ?b ?c ?d ?e ?f ?_); (case a => rfl); (case b => rfl); (case c => rfl); (case d => rfl); (case e => rfl); (case f => rfl))
  | ((with_reducible refine' we_bm (T := "str") (id := "str.removeprefix") PySem.F.plainAttrs_str PySem.F.slot_str_removeprefix ?a ?b ?c ?d ?e ?f ?_); (case a => rfl); (case b => rfl); (case c => rfl); (case d => rfl); (case e => rfl); (case f => rfl))
  | ((with_reducible refine' we_bm (T := "str") (id := "str.split") PySem.F.plainAttrs_str PySem.F.slot_str_split ?a ?b ?c ?d ?e ?f ?_); (case a => rfl); (case b => rfl); (case c => rfl); (case d => rfl); (case e => rfl); (case f => rfl)))
local macro_rules | `(tactic| walk_at "t1.WC") => `(tactic| first
  | ((with_reducible refine' wc_lenS ?h ?_); (case h => assumption)))
local macro_rules | `(tactic| walk_at "t1.WM") => `(tactic| first
  | ((with_reducible refine' wm_startswith ?_))
  | ((with_reducible refine' wm_endswith ?_))
  | ((with_reducible refine' wm_removeprefix ?h ?_); (case h => assumption)))
local macro_rules | `(tactic| walk_at "t1") => `(tactic| first
  | ((with_reducible refine' gq_WE ?_); walk_at "t1.WE")
  | ((with_reducible refine' gq_WC ?_); walk_at "t1.WC")
  | ((with_reducible refine' gq_WM ?_); walk_at "t1.WM")
  | walk_at "s1")
local macro_rules | `(tactic| walk_at "tv") => `(tactic| repeat' (first | walk_at "t1" | (with_reducible refine' iteBo (fun hb => ?_) (fun hb => ?_))))
theorem len_cutZ (z : Str) (lo hi : Option Int) : (cutS z lo hi).length ≤ z.length := by
  rw [zlen, zlen, cut_tl, List.length_take, List.length_drop]
  omega
def sIsQuot : SpD := fun ds O k _ => ∃ z : Str, ds = [.str z] ∧ z.length ≤ 1000 ∧ k (.bl (quotB z)) O
theorem pm_isQuot (Dd : Df K mg "is_quoted" s_is_quoted p_is_quoted) (h_text : Pm P w K mg base "is_text" 1 sIsText) (b_len : mg "len" = none) : Pm P w K mg base "is_quoted" 2 sIsQuot := by
  refine Pm.of Dd sc_is_quoted (fun ds O k kx h => by obtain ⟨_, h, _⟩ := h; rw [h]; rfl) (fun f cdv A outer s H E hg hr ds O k kx hS => ?_)
  obtain ⟨z, rfl, hz, hk⟩ := hS
  have hz2 : z.length ≤ sizeLine := Nat.le_trans hz (by decide)
  refine with_va (x := "word") (i := 0) ⟨rfl, by walk_at "vis", by decide, by decide⟩ fun va0 => ?_
  refine with_bn (x := "len") (id := "len") ⟨rfl, b_len, by decide +kernel, by decide, by decide⟩ fun bn_len => ?_
  refine with_kn (h_text.kn rfl rfl rfl rfl rfl rfl (by decide)) fun kn_text => ?_
  walk_at "body"
  walk_at "tv"
  all_goals try first
    | (refine Ret.of (bl_eq ?_ hk)
       cases h : quotB z
       · rfl
       · unfold quotB at h
         simp only [Bool.and_eq_true,
             decide_eq_true_eq] at h
         obtain ⟨h1, h2, h3, _⟩ := h
         first
           | omega
           | (rename ((!Txt.startswith z _) = true) => q
              rw [h2] at q
              cases q)
           | (rename ((!Txt.endswith z _) = true) => q
              rw [h3] at q
              cases q))
  have hs : Txt.startswith z "\"" = true := by
    cases h : Txt.startswith z "\""
    · rename ((!Txt.startswith z _) = false) => q
      rw [h] at q
      cases q
    · rfl
  have he : Txt.endswith z "\"" = true := by
    cases h : Txt.endswith z "\""
    · rename ((!Txt.endswith z _) = false) => q
      rw [h] at q
      cases q
    · rfl
  refine ⟨_, rfl, Nat.le_trans (len_cutZ z _ _) hz, Ret.of (bl_eq ?_ hk)⟩
  unfold quotB
  rw [hs, he, decide_eq_true (show 2 ≤ z.length by omega)]
  rfl
def sIsDec : SpD := fun ds O k _ => ∃ z : Str, ds = [.str z] ∧ z.length ≤ 1000 ∧ k (.bl (decB z)) O
theorem pm_isDec (Dd : Df K mg "is_decimal" s_is_decimal p_is_decimal) (h_num : Pm P w K mg base "is_number" 1 sIsNum) (gD : GlD K mg "DIGITS" (.str digS)) (gM : GlD K mg "MOST_DIGITS" (.int 7)) (b_len : mg "len" = none) (b_all : mg "all" = none) (b_int : mg "int" = none) (b_str : mg "str" = none) : Pm P w K mg base "is_decimal" 2 sIsDec := by
  refine Pm.of Dd sc_is_decimal (fun ds O k kx h => by obtain ⟨_, h, _⟩ := h; rw [h]; rfl) (fun f cdv A outer s H E hg hr ds O k kx hS => ?_)
  obtain ⟨z, rfl, hz, hk⟩ := hS
  have hz2 : z.length ≤ sizeLine := Nat.le_trans hz (by decide)
  have hd : (Txt.removeprefix z "-").cps.toList = digL z := rmpre1 z 45
  have hdl : (Txt.removeprefix z "-").length = (digL z).length := by rw [zlen, hd]
  have hdz : (digL z).length ≤ 1000 := by
    unfold digL
    rw [zlen] at hz
    split
    · rw [List.length_tail]; omega
    · exact hz
  refine with_va (x := "word") (i := 0) ⟨rfl, by walk_at "vis", by decide, by decide⟩ fun va0 => ?_
  refine with_va (x := "digits") (i := 1) ⟨rfl, by walk_at "vis", by decide, by decide⟩ fun va1 => ?_
  refine with_vs (x := "digits") (i := 1) ⟨sc_is_decimal.nd, rfl, by walk_at "loc", .inl rfl⟩ fun vs1 => ?_
  refine with_bn (x := "len") (id := "len") ⟨rfl, b_len, by decide +kernel, by decide, by decide⟩ fun bn_len => ?_
  refine with_bn (x := "all") (id := "all") ⟨rfl, b_all, by decide +kernel, by decide, by decide⟩ fun bn_all => ?_
  refine with_bt (x := "int") (T := "int") ⟨rfl, b_int, by decide +kernel, by decide, by decide⟩ fun bt_int => ?_
  refine with_bt (x := "str") (T := "str") ⟨rfl, b_str, by decide +kernel, by decide, by decide⟩ fun bt_str => ?_
  refine with_kn (h_num.kn rfl rfl rfl rfl rfl rfl (by decide)) fun kn_num => ?_
  refine with_p (gM.gd (X := Bo P w K mg base n_is_decimal "is_decimal" s_is_decimal f cdv A outer s H E) rfl rfl rfl (by decide)) fun gd_m => ?_
  walk_at "body"
  walk_at "tv"
  generalize hD : Txt.removeprefix z "-" = dz at hd hdl
  have hz3 : dz.length ≤ sizeLine := Nat.le_trans (by rw [hdl]; exact hdz) (by decide)
  walk_at "tv"
  all_goals try first
    | (refine Ret.of (bl_eq ?_ hk)
       cases h : decB z
       · rfl
       · unfold decB at h
         simp only [Bool.and_eq_true,
             decide_eq_true_eq] at h
         obtain ⟨h1, h2, _⟩ := h
         omega)
  have l1 : 1 ≤ (digL z).length := by omega
  have l2 : (digL z).length ≤ 7 := by omega
  refine we_lc [("sign", 2)] (.nm 2) rfl sc_is_decimal.nd rfl (.inl rfl) (fun _ => rfl) (fun s0 H0 C0 cl0 fp0 => pg_name (i := 2) sc_is_decimal.nd rfl (Or.inl rfl) (Or.inr rfl)) (by decide) ?_
  refine it_str ?_
  walk_at "tv"
  rw [hd]
  refine lc_mapL (digL z) (fun c => .str ⟨#[c]⟩) (fun c => .bl (decide (c ∈ digS.cps.toList))) hdz (fun c hc O2 ag => ⟨_, rfl, fun s0 H0 C0 cl0 fp0 => ?_⟩) ?_
  · refine e_va (x := "sign") (i := 2) ⟨rfl, by walk_at "vis", by decide, by decide⟩ fun va1 => ?_
    refine e_gd (gD.gd rfl rfl rfl (by decide)) fun gd_d => ?_
    walk_at "tv"
    exact wo_inSign ⟨rfl, rfl⟩
  · refine wa_nil (wc_all rfl (.inl (by rw [List.map_map]; rfl)) ?_)
    rw [all_signs]
    walk_at "tv"
    · refine Ret.of (bl_eq ?_ hk)
      rename ((!(digL z).all _) = true) => q
      unfold decB
      cases h : (digL z).all fun c => decide (c ∈ digS.cps.toList)
      · rw [Bool.false_and, Bool.and_false, Bool.and_false]
      · rw [h] at q
        cases q
    · rename ((!(digL z).all _) = false) => q
      have qa : ((digL z).all fun c => decide (c ∈ digS.cps.toList)) = true := by
        cases h : (digL z).all fun c => decide (c ∈ digS.cps.toList)
        · rw [h] at q
          cases q
        · rfl
      obtain ⟨r1, r2⟩ := dec_reads l1 l2 qa
      refine wc_intS r1 (by omega) ?_
      walk_at "tv"
      refine ⟨decN z, rfl, _, rfl, iteBo (fun hb => ?_) fun hb => ?_⟩
      · walk_at "tv"
        refine wc_intS r1 (by omega) ?_
        walk_at "tv"
        refine wc_strI (small_log hb) ?_
        walk_at "tv"
        refine Ret.of (bl_eq ?_ hk)
        unfold decB
        rw [qa, hb, decide_eq_true l1, decide_eq_true l2]
        rfl
      · refine Ret.of (bl_eq ?_ hk)
        unfold decB
        rw [hb, Bool.false_and, Bool.and_false, Bool.and_false, Bool.and_false]
/-- a cell's text read where it may be read -/
def sReadCell : SpD := fun ds O k _ => ∃ (z s : Str) (at_ : Int) (d : D), ds = [.str z, .str s, .int at_] ∧ z.length ≤ 1000 ∧ cellR s z = some d ∧ k d O
theorem pm_readCell (Dd : Df K mg "read_cell" s_read_cell p_read_cell) (h_quot : Pm P w K mg base "is_quoted" 2 sIsQuot) (h_dec : Pm P w K mg base "is_decimal" 2 sIsDec) (b_int : mg "int" = none) : Pm P w K mg base "read_cell" 3 sReadCell := by
  refine Pm.of Dd sc_read_cell (fun ds O k kx h => by obtain ⟨_, _, _, _, h, _⟩ := h; rw [h]; rfl) (fun f cdv A outer s H E hg hr ds O k kx hS => ?_)
  obtain ⟨z, so, at_, d, rfl, hz, hR, hk⟩ := hS
  have hz2 : z.length ≤ sizeLine := Nat.le_trans hz (by decide)
  refine with_va (x := "word") (i := 0) ⟨rfl, by walk_at "vis", by decide, by decide⟩ fun va0 => ?_
  refine with_va (x := "sort") (i := 1) ⟨rfl, by walk_at "vis", by decide, by decide⟩ fun va1 => ?_
  refine with_va (x := "at") (i := 2) ⟨rfl, by walk_at "vis", by decide, by decide⟩ fun va2 => ?_
  refine with_bt (x := "int") (T := "int") ⟨rfl, b_int, by decide +kernel, by decide, by decide⟩ fun bt_int => ?_
  refine with_kn (h_quot.kn rfl rfl rfl rfl rfl rfl (by decide)) fun kn_quot => ?_
  refine with_kn (h_dec.kn rfl rfl rfl rfl rfl rfl (by decide)) fun kn_dec => ?_
  unfold cellR at hR
  by_cases h0 : z = "-"
  · rw [if_pos h0] at hR
    cases hR
    walk_at "body"
    walk_at "tv"
    all_goals first
      | exact Ret.of hk
      | exact absurd h0 ‹¬ z = "-"›
  · rw [if_neg h0] at hR
    by_cases h1 : so = "text" ∧ quotB z = true
    · rw [if_pos h1] at hR
      cases hR
      obtain ⟨rfl, hq⟩ := h1
      walk_at "body"
      walk_at "tv"
      · exact absurd ‹_› h0
      · refine ⟨z, rfl, hz, ?_⟩
        rw [hq]
        walk_at "tv"
        exact Ret.of hk
    · rw [if_neg h1] at hR
      by_cases h2 : so = "number" ∧ decB z = true
      · rw [if_pos h2] at hR
        cases hR
        obtain ⟨rfl, hq⟩ := h2
        have hq2 := hq
        unfold decB at hq2
        simp only [Bool.and_eq_true, decide_eq_true_eq] at hq2
        obtain ⟨r1, r2⟩ := dec_reads hq2.1 hq2.2.1 hq2.2.2.1
        walk_at "body"
        walk_at "tv"
        · exact absurd ‹_› h0
        · refine ⟨z, rfl, hz, ?_⟩
          rw [hq]
          walk_at "tv"
          refine wc_intS r1 (by omega) (Ret.of hk)
      · rw [if_neg h2] at hR
        cases hR

/-! ### lines read -/
theorem split_room {z : Str} (h : z.length ≤ 3000000) : z.length + 2 ≤ sizeLine := by rw [sizeLine_eq]; omega
def sReadCols : SpD := fun ds O k _ => ∃ (z : Str) (cs : List (List Str)), ds = [.str z] ∧ z.length ≤ 30000 ∧ (Txt.split z ", ").map (fun x => Txt.split x " ") = cs ∧ cs.length ≤ 1000 ∧ (∀ x ∈ Txt.split z ", ", x.length ≤ 3000) ∧ (∀ ws ∈ cs, ∀ y ∈ ws, y.length ≤ 1000) ∧ colsB cs = true ∧ k (.lst (cs.map colW)) O
theorem pm_readCols (Dd : Df K mg "_read_columns" s__read_columns p__read_columns) (h_cols : Pm P w K mg base "are_columns" 3 sAreCols) (b_tuple : mg "tuple" = none) : Pm P w K mg base "_read_columns" 4 sReadCols := by
  refine Pm.of Dd sc__read_columns (fun ds O k kx h => by obtain ⟨_, _, h, _⟩ := h; rw [h]; rfl) (fun f cdv A outer s H E hg hr ds O k kx hS => ?_)
  obtain ⟨z, cs, rfl, hz, hcs, hl, hx, hy, hok, hk⟩ := hS
  refine with_va (x := "line") (i := 0) ⟨rfl, by walk_at "vis", by decide, by decide⟩ fun va0 => ?_
  refine with_va (x := "columns") (i := 1) ⟨rfl, by walk_at "vis", by decide, by decide⟩ fun va1 => ?_
  refine with_vs (x := "columns") (i := 1) ⟨sc__read_columns.nd, rfl, by walk_at "loc", .inl rfl⟩ fun vs1 => ?_
  refine with_kn (h_cols.kn rfl rfl rfl rfl rfl rfl (by decide)) fun kn_cols => ?_
  walk_at "body"
  walk_at "tv"
  (with_reducible refine' ws_setLc (j := 1) [("words", 2)] (.nm 2) ?c1 ?c2 ?c3 ?c4 ?c5 ?c6 ?c7 ?c8 ?c9 ?c10 ?_); (case c1 => rfl); (case c2 => exact sc__read_columns.nd); (case c3 => rfl); (case c4 => rfl); (case c5 => rfl); (case c6 => rfl); (case c7 => exact .inl rfl); (case c8 => exact fun _ => rfl); (case c9 => exact fun s0 H0 C0 cl0 fp0 => pg_name (i := 2) sc__read_columns.nd rfl (Or.inl rfl) (Or.inr rfl)); (case c10 => decide)
  refine it_list ?_
  walk_at "tv"
  refine wm_split (by decide +kernel) (split_room (by omega)) ⟨_, .inl rfl, ?_⟩
  have hlen : (Txt.split z ", ").length = cs.length := by rw [← hcs, List.length_map]
  refine lc_mapL (Txt.split z ", ") D.str (fun x => colW (Txt.split x " ")) (by omega) (fun x hxm O2 ag => ⟨_, rfl, fun s0 H0 C0 cl0 fp0 => ?_⟩) ?_
  · refine e_va (x := "words") (i := 2) ⟨rfl, by walk_at "vis", by decide, by decide⟩ fun va2 => ?_
    refine e_bt (x := "tuple") (T := "tuple") ⟨rfl, b_tuple, by decide +kernel, by decide, by decide⟩ fun bt_tuple => ?_
    walk_at "tv"
    have := hx x hxm
    refine wm_split (by decide +kernel) (split_room (by omega)) ?_
    walk_at "tv"
    refine wc_tupL sq_lst ⟨rfl, rfl⟩
  · have e : (Txt.split z ", ").map (fun x => colW (Txt.split x " ")) = cs.map colW := by
      rw [← hcs, List.map_map]
      rfl
    rw [e]
    walk_at "tv"
    refine ⟨cs, .inl rfl, hl, hy, ?_⟩
    rw [hok]
    walk_at "tv"
    exact Ret.of hk
def sReadRow : SpD := fun ds O k _ => ∃ (z : Str) (cs : List Col) (at_ : Int), ds = [.str z, .lst (cs.map colD), .int at_] ∧ z.length ≤ 30000 ∧ cs.length ≤ 1000 ∧ (Txt.split z ", ").length = cs.length ∧ (∀ p ∈ (Txt.split z ", ").zip cs, p.1.length ≤ 1000 ∧ cellR p.2.2 p.1 ≠ none) ∧ k (.lst (((Txt.split z ", ").zip cs).map fun p => (cellR p.2.2 p.1).getD .non)) O
theorem pm_readRow (Dd : Df K mg "_read_row" s__read_row p__read_row) (h_cell : Pm P w K mg base "read_cell" 3 sReadCell) (b_len : mg "len" = none) (b_zip : mg "zip" = none) : Pm P w K mg base "_read_row" 4 sReadRow := by
  refine Pm.of Dd sc__read_row (fun ds O k kx h => by obtain ⟨_, _, _, h, _⟩ := h; rw [h]; rfl) (fun f cdv A outer s H E hg hr ds O k kx hS => ?_)
  obtain ⟨z, cs, at_, rfl, hz, hcz, hl, hR, hk⟩ := hS
  have hl2 : decide ((((Txt.split z ", ").map D.str).length : Int) = ((cs.map colD).length : Int)) = true := by
    rw [List.length_map, List.length_map, hl]
    exact decide_eq_true rfl
  refine with_va (x := "line") (i := 0) ⟨rfl, by walk_at "vis", by decide, by decide⟩ fun va0 => ?_
  refine with_va (x := "columns") (i := 1) ⟨rfl, by walk_at "vis", by decide, by decide⟩ fun va1 => ?_
  refine with_va (x := "at") (i := 2) ⟨rfl, by walk_at "vis", by decide, by decide⟩ fun va2 => ?_
  refine with_va (x := "words") (i := 3) ⟨rfl, by walk_at "vis", by decide, by decide⟩ fun va3 => ?_
  refine with_vs (x := "words") (i := 3) ⟨sc__read_row.nd, rfl, by walk_at "loc", .inl rfl⟩ fun vs3 => ?_
  refine with_bn (x := "len") (id := "len") ⟨rfl, b_len, by decide +kernel, by decide, by decide⟩ fun bn_len => ?_
  walk_at "body"
  walk_at "tv"
  refine wm_split (by decide +kernel) (split_room (by omega)) ?_
  walk_at "tv"
  · refine we_lc [("word", 4), ("column", 5)] (.tup [.nm 4, .nm 5]) rfl sc__read_row.nd rfl (.inl rfl) (fun _ => rfl) (fun s0 H0 C0 cl0 fp0 => pg_tup rfl (pgs_cons (pg_name (i := 4) sc__read_row.nd rfl (Or.inl rfl) (Or.inr rfl)) (pgs_cons (pg_name (i := 5) sc__read_row.nd rfl (Or.inl rfl) (Or.inr rfl)) pgs_nil))) (by decide) ?_
    refine it_zipL rfl b_zip rfl rfl ?_
    walk_at "tv"
    refine ⟨(Txt.split z ", ").map D.str, cs.map colD, rfl, ?_⟩
    have ez : zipD ((Txt.split z ", ").map D.str) (cs.map colD) = ((Txt.split z ", ").zip cs).map fun p => .tup [.str p.1, colD p.2] := by
      rw [zip_cols, List.zip_map_left, List.map_map]
      rfl
    rw [ez]
    refine lc_mapL ((Txt.split z ", ").zip cs) (fun p => .tup [.str p.1, colD p.2]) (fun p => (cellR p.2.2 p.1).getD .non) (by rw [List.length_zip]; omega) (fun p hp O2 ag => ⟨_, rfl, fun s0 H0 C0 cl0 fp0 => ?_⟩) (Ret.of hk)
    refine e_va (x := "word") (i := 4) ⟨rfl, by walk_at "vis", by decide, by decide⟩ fun va4 => ?_
    refine e_va (x := "column") (i := 5) ⟨rfl, by walk_at "vis", by decide, by decide⟩ fun va5 => ?_
    refine e_va (x := "at") (i := 2) ⟨rfl, by walk_at "vis", by decide, by decide⟩ fun va2 => ?_
    refine e_kn (h_cell.kn rfl rfl rfl rfl rfl rfl (by decide)) fun kn_cell => ?_
    walk_at "tv"
    obtain ⟨g1, g2⟩ := hR p hp
    cases hc : cellR p.2.2 p.1 with
    | none => exact absurd hc g2
    | some d => exact ⟨p.1, p.2.2, at_, d, rfl, g1, hc, rfl, rfl⟩
  · exfalso
    rename (¬ (((Txt.split z ", ").map D.str).length : Int) = _) => q
    rw [List.length_map,
        List.length_map] at q
    exact q (by rw [hl])
/-! ### lines read, right or wrong -/
abbrev s_InvalidText___init__ : Stmt := inClass (top 3) 0
abbrev n_InvalidText___init__ : List Str := ["self", "at"]
abbrev p_InvalidText___init__ : List Str := ["self", "at"]
theorem sc_InvalidText___init__ : FnScope n_InvalidText___init__ p_InvalidText___init__ (defScope s_InvalidText___init__) := ⟨rfl, rfl, rfl, by decide +kernel, rfl, by decide +kernel, by decide +kernel⟩
theorem ini_text : IniT s_InvalidText___init__ "at" := ⟨⟨_, _, _, _, rfl⟩, fun _ _ _ _ _ _ _ _ _ _ => rfl, fun _ _ => rfl, fun _ _ _ _ => rfl, fun _ _ _ _ => rfl, fun _ _ _ _ _ _ => rfl, fun _ _ _ _ _ _ => rfl, by decide, fun _ _ _ _ _ _ _ _ _ _ => rfl, rfl, rfl, rfl⟩
/-- an exception class, known -/
structure PeG (K : PySem.W.Frag) (mg : Str → Option Value) (x : Str) (C : Addr) (f : Str) : Prop where
  cl : ∃ (qual : Str) (st : Stmt), ExCl K C f qual st
  mg : mg x = some (.ref C)
theorem PeG.kx {x f : Str} {C : Addr} (F : PeG K mg x C f) {X : Cx} (e3 : X.K = K) (e4 : X.mg = mg) (gl : Gl X x) (db : (x == ("__debug__" : Str)) = false) : KxG X x C f := by
  subst e3 e4
  exact ⟨F.cl, F.mg, gl, db⟩
section
variable {X : Cx} {L0 : Lg} {Γ : Sg} {O : Ow} {De : DE} {st : List Stmt}
theorem with_vaX {x : Str} {i : Nat} (hv : Va X x i) (h : Va X x i → WSsx X L0 st Γ O De) : WSsx X L0 st Γ O De := h hv
theorem with_vsX {x : Str} {i : Nat} (hv : Vs X x i) (h : Vs X x i → WSsx X L0 st Γ O De) : WSsx X L0 st Γ O De := h hv
theorem with_pX {p : Prop} (hv : p) (h : p → WSsx X L0 st Γ O De) : WSsx X L0 st Γ O De := h hv
end
local macro_rules | `(tactic| walk_at "t1") => `(tactic| first
  | ((with_reducible refine' we_gd ?g ?_); (case g => assumption))
  | ((with_reducible refine' wc_lenS ?h ?_); (case h => assumption))
  | ((with_reducible refine' we_bm (T := "str") (id := "str.split") PySem.F.plainAttrs_str PySem.F.slot_str_split ?a ?b ?c ?d ?e ?f ?_); (case a => rfl); (case b => rfl); (case c => rfl); (case d => rfl); (case e => rfl); (case f => rfl))
  | walk_at "s1")
local macro_rules | `(tactic| walk_at "tv") => `(tactic| repeat' (first | walk_at "t1" | (with_reducible refine' iteBo (fun hb => ?_) (fun hb => ?_))))
section
variable {CT : Addr}
def sReadCellX (CT : Addr) : SpD := fun ds O k kx => ∃ (z s : Str) (at_ : Int), ds = [.str z, .str s, .int at_] ∧ z.length ≤ 1000 ∧ (∀ d, cellR s z = some d → k d O) ∧ (cellR s z = none → kx CT [("at", .int at_)] O)
theorem pm_readCellX (Dd : Df K mg "read_cell" s_read_cell p_read_cell) (h_quot : Pm P w K mg base "is_quoted" 2 sIsQuot) (h_dec : Pm P w K mg base "is_decimal" 2 sIsDec) (b_int : mg "int" = none) (h_it : PeG K mg "InvalidText" CT "at") : PmX P w K mg base "read_cell" 3 (sReadCellX CT) := by
  refine PmX.of Dd sc_read_cell (fun ds O k kx h => by obtain ⟨_, _, _, h, _⟩ := h; rw [h]; rfl) (fun f cdv A outer s H E hg hr L0 ds O k kx hS tx => ?_)
  obtain ⟨z, so, at_, rfl, hz, hk, hx⟩ := hS
  have hz2 : z.length ≤ sizeLine := Nat.le_trans hz (by decide)
  refine with_vaX (x := "word") (i := 0) ⟨rfl, by walk_at "vis", by decide, by decide⟩ fun va0 => ?_
  refine with_vaX (x := "sort") (i := 1) ⟨rfl, by walk_at "vis", by decide, by decide⟩ fun va1 => ?_
  refine with_vaX (x := "at") (i := 2) ⟨rfl, by walk_at "vis", by decide, by decide⟩ fun va2 => ?_
  refine with_pX (⟨rfl, b_int, by decide +kernel, by decide, by decide⟩ : Bt (Bx P w K mg base n_read_cell "read_cell" s_read_cell f cdv A outer s H E) "int" "int") fun bt_int => ?_
  refine with_pX (h_quot.kn (X := Bx P w K mg base n_read_cell "read_cell" s_read_cell f cdv A outer s H E) rfl rfl rfl rfl rfl rfl (by decide)) fun kn_quot => ?_
  refine with_pX (h_dec.kn (X := Bx P w K mg base n_read_cell "read_cell" s_read_cell f cdv A outer s H E) rfl rfl rfl rfl rfl rfl (by decide)) fun kn_dec => ?_
  have kx_it : KxG (Bx P w K mg base n_read_cell "read_cell" s_read_cell f cdv A outer s H E) "InvalidText" CT "at" := h_it.kx rfl rfl rfl (by decide)
  unfold cellR at hk hx
  by_cases h0 : z = "-"
  · rw [if_pos h0] at hk
    have hk := hk _ rfl
    (conv => arg 3; whnf)
    refine wss_x ?_
    walk_at "tv"
    all_goals first
      | exact Ret.of hk
      | exact absurd h0 ‹¬ z = "-"›
  · rw [if_neg h0] at hk hx
    by_cases h1 : so = "text" ∧ quotB z = true
    · rw [if_pos h1] at hk
      have hk := hk _ rfl
      obtain ⟨rfl, hq⟩ := h1
      (conv => arg 3; whnf)
      refine wss_x ?_
      walk_at "tv"
      · exact absurd ‹_› h0
      · refine ⟨z, rfl, hz, ?_⟩
        rw [hq]
        walk_at "tv"
        exact Ret.of hk
    · rw [if_neg h1] at hk hx
      by_cases h2 : so = "number" ∧ decB z = true
      · rw [if_pos h2] at hk
        have hk := hk _ rfl
        obtain ⟨rfl, hq⟩ := h2
        have hq2 := hq
        unfold decB at hq2
        simp only [Bool.and_eq_true, decide_eq_true_eq] at hq2
        obtain ⟨r1, r2⟩ := dec_reads hq2.1 hq2.2.1 hq2.2.2.1
        (conv => arg 3; whnf)
        refine wss_x ?_
        walk_at "tv"
        · exact absurd ‹_› h0
        · refine ⟨z, rfl, hz, ?_⟩
          rw [hq]
          walk_at "tv"
          refine wc_intS r1 (by omega) (Ret.of hk)
      · rw [if_neg h2] at hx
        have hx := hx rfl
        (conv => arg 3; whnf)
        refine xs_cons (xs_if ?_)
        walk_at "tv"
        · exact absurd ‹_› h0
        refine xs_nil ?_
        show WSsx _ _ _ _ _ _
        refine xs_cons (xs_if ?_)
        walk_at "tv"
        · refine ⟨z, rfl, hz, ?_⟩
          rw [show quotB z = false from Bool.eq_false_iff.mpr fun q => h1 ⟨‹_›, q⟩]
          walk_at "tv"
          refine xs_nil ?_
          show WSsx _ _ _ _ _ _
          refine xs_cons (xs_if ?_)
          walk_at "tv"
          · subst so
            exact absurd ‹_ = ("number" : Str)› (by decide +kernel)
          refine xs_nil ?_
          show WSsx _ _ _ _ _ _
          refine xs_one (xs_raiseG (j := 0) rfl tx kx_it (Room.mono hr (by decide)) rfl rfl ?_)
          walk_at "tv"
          exact hx
        refine xs_nil ?_
        show WSsx _ _ _ _ _ _
        refine xs_cons (xs_if ?_)
        walk_at "tv"
        · refine ⟨z, rfl, hz, ?_⟩
          rw [show decB z = false from Bool.eq_false_iff.mpr fun q => h2 ⟨‹_›, q⟩]
          walk_at "tv"
          refine xs_nil ?_
          show WSsx _ _ _ _ _ _
          refine xs_one (xs_raiseG (j := 0) rfl tx kx_it (Room.mono hr (by decide)) rfl rfl ?_)
          walk_at "tv"
          exact hx
        refine xs_nil ?_
        show WSsx _ _ _ _ _ _
        refine xs_one (xs_raiseG (j := 0) rfl tx kx_it (Room.mono hr (by decide)) rfl rfl ?_)
        walk_at "tv"
        exact hx
/-- the columns that a line tells -/
@[irreducible] def colsIn (z : Str) : List (List Str) := (Txt.split z ", ").map fun x => Txt.split x " "
def sReadColsX (CT : Addr) : SpD := fun ds O k kx => ∃ z : Str, ds = [.str z] ∧ z.length ≤ 1000 ∧ (colsB (colsIn z) = true → k (.lst ((colsIn z).map colW)) O) ∧ (colsB (colsIn z) = false → kx CT [("at", .int 0)] O)
theorem joinS {s : Str} : ∀ {ws : List Str}, ws ≠ [] → (Str.join s ws).length + s.length = (ws.map (·.length)).sum + ws.length * s.length
  | [], h => absurd rfl h
  | [a], _ => by
    show a.length + s.length = _
    simp
  | a :: b :: r, _ => by
    have ih := joinS (s := s) (ws := b :: r) (List.cons_ne_nil _ _)
    have e : Str.join s (a :: b :: r) = a ++ s ++ Str.join s (b :: r) := rfl
    rw [e, len_add, len_add, List.map_cons, List.sum_cons, List.length_cons, Nat.succ_mul]
    omega
theorem split_nn {z s : Str} (hs : Txt.split "" s ≠ []) : Txt.split z s ≠ [] := fun h => by
  have e := StrLaws.join_split z s
  rw [h] at e
  have e2 : z = "" := e.symm
  rw [e2] at h
  exact hs h
theorem splitS {z s : Str} (hs : Txt.split "" s ≠ []) : ((Txt.split z s).map (·.length)).sum + (Txt.split z s).length * s.length = z.length + s.length := by
  rw [← joinS (split_nn hs), StrLaws.join_split]
theorem mem_sum {x : Str} : ∀ {ws : List Str}, x ∈ ws → x.length ≤ (ws.map (·.length)).sum
  | a :: ws, h => by
    rw [List.map_cons,
        List.sum_cons]
    rcases List.mem_cons.mp
        h with rfl | h
    · omega
    · have := mem_sum h
      omega
theorem split_mem {z s x : Str} (hs : Txt.split "" s ≠ []) (h : x ∈ Txt.split z s) : x.length ≤ z.length := by
  have a := splitS (z := z) hs
  have b := mem_sum h
  have c := List.length_pos_iff.mpr (split_nn (z := z) hs)
  have d : s.length ≤ (Txt.split z s).length * s.length := Nat.le_mul_of_pos_left _ c
  omega
theorem sp_comma : Txt.split "" ", " ≠ [] := by decide +kernel
theorem sp_blank : Txt.split "" " " ≠ [] := by decide +kernel
theorem sp_line : Txt.split "" "\n" ≠ [] := by decide +kernel
theorem split_comma {z : Str} (h : z.length ≤ 1000) : (Txt.split z ", ").length ≤ 501 := by
  have a := splitS (z := z) sp_comma
  have b : (", " : Str).length = 2 := by decide +kernel
  rw [b] at a
  omega
theorem pm_readColsX (Dd : Df K mg "_read_columns" s__read_columns p__read_columns) (h_cols : Pm P w K mg base "are_columns" 3 sAreCols) (b_tuple : mg "tuple" = none) (h_it : PeG K mg "InvalidText" CT "at") : PmX P w K mg base "_read_columns" 4 (sReadColsX CT) := by
  refine PmX.of Dd sc__read_columns (fun ds O k kx h => by obtain ⟨_, h, _⟩ := h; rw [h]; rfl) (fun f cdv A outer s H E hg hr L0 ds O k kx hS tx => ?_)
  obtain ⟨z, rfl, hz, hk, hx⟩ := hS
  have ecs : colsIn z = (Txt.split z ", ").map fun x => Txt.split x " " := by unfold colsIn; rfl
  refine with_vaX (x := "line") (i := 0) ⟨rfl, by walk_at "vis", by decide, by decide⟩ fun va0 => ?_
  refine with_vaX (x := "columns") (i := 1) ⟨rfl, by walk_at "vis", by decide, by decide⟩ fun va1 => ?_
  refine with_vsX (x := "columns") (i := 1) ⟨sc__read_columns.nd, rfl, by walk_at "loc", .inl rfl⟩ fun vs1 => ?_
  refine with_pX (h_cols.kn (X := Bx P w K mg base n__read_columns "_read_columns" s__read_columns f cdv A outer s H E) rfl rfl rfl rfl rfl rfl (by decide)) fun kn_cols => ?_
  have kx_it : KxG (Bx P w K mg base n__read_columns "_read_columns" s__read_columns f cdv A outer s H E) "InvalidText" CT "at" := h_it.kx rfl rfl rfl (by decide)
  (conv => arg 3; whnf)
  refine xs_cons (ws_x ?_)
  (with_reducible refine' ws_setLc (j := 1) [("words", 2)] (.nm 2) ?c1 ?c2 ?c3 ?c4 ?c5 ?c6 ?c7 ?c8 ?c9 ?c10 ?_); (case c1 => rfl); (case c2 => exact sc__read_columns.nd); (case c3 => rfl); (case c4 => rfl); (case c5 => rfl); (case c6 => rfl); (case c7 => exact .inl rfl); (case c8 => exact fun _ => rfl); (case c9 => exact fun s0 H0 C0 cl0 fp0 => pg_name (i := 2) sc__read_columns.nd rfl (Or.inl rfl) (Or.inr rfl)); (case c10 => decide)
  refine it_list ?_
  walk_at "tv"
  refine wm_split (by decide +kernel) (split_room (by omega)) ⟨_, .inl rfl, ?_⟩
  have hlen := split_comma hz
  refine lc_mapL (Txt.split z ", ") D.str (fun x => colW (Txt.split x " ")) (by omega) (fun x hxm O2 ag => ⟨_, rfl, fun s0 H0 C0 cl0 fp0 => ?_⟩) ?_
  · refine e_va (x := "words") (i := 2) ⟨rfl, by walk_at "vis", by decide, by decide⟩ fun va2 => ?_
    refine e_bt (x := "tuple") (T := "tuple") ⟨rfl, b_tuple, by decide +kernel, by decide, by decide⟩ fun bt_tuple => ?_
    walk_at "tv"
    have := split_mem sp_comma hxm
    refine wm_split (by decide +kernel) (split_room (by omega)) ?_
    walk_at "tv"
    refine wc_tupL sq_lst ⟨rfl, rfl⟩
  have e : (Txt.split z ", ").map (fun x => colW (Txt.split x " ")) = (colsIn z).map colW := by
    rw [ecs, List.map_map]
    rfl
  rw [e]
  have hl : (colsIn z).length ≤ 1000 := by rw [ecs, List.length_map]; omega
  have hy : ∀ ws ∈ colsIn z, ∀ y ∈ ws, y.length ≤ 1000 := fun ws hw y hy => by
    rw [ecs] at hw
    obtain ⟨x, hx1, rfl⟩ := List.mem_map.mp hw
    have a := split_mem sp_comma hx1
    have b := split_mem sp_blank hy
    omega
  refine xs_cons (xs_if ?_)
  walk_at "tv"
  refine ⟨_, .inl rfl, hl, hy, ?_⟩
  cases hb : colsB (colsIn z) with
  | true =>
    walk_at "tv"
    refine xs_nil ?_
    show WSsx _ _ _ _ _ _
    refine wss_x ?_
    walk_at "tv"
    exact Ret.of (hk hb)
  | false =>
    walk_at "tv"
    refine xs_one (xs_raiseG (j := 0) rfl tx kx_it (Room.mono hr (by decide)) rfl rfl ?_)
    walk_at "tv"
    exact hx hb
end
/-! ### a row read, a table read, right or wrong -/
section
variable {CT : Addr}
local macro_rules | `(tactic| walk_at "t1") => `(tactic| first
  | ((with_reducible refine' we_gd ?g ?_); (case g => assumption))
  | ((with_reducible refine' we_bm (T := "str") (id := "str.split") PySem.F.plainAttrs_str PySem.F.slot_str_split ?a ?b ?c ?d ?e ?f ?_); (case a => rfl); (case b => rfl); (case c => rfl); (case d => rfl); (case e => rfl); (case f => rfl))
  | ((with_reducible refine' wsl_list ?d ?_); (case d => walk_at "sq"))
  | (with_reducible refine' wk_nil ?_)
  | (with_reducible refine' wk_cons ?_)
  | walk_at "s1")
local macro_rules | `(tactic| walk_at "tv") => `(tactic| repeat' (walk_at "t1"))
/-- the row that a line tells -/
@[irreducible] def rowIn (cs : List Col) (z : Str) : Option (List D) := if (Txt.split z ", ").length = cs.length ∧ ∀ p ∈ (Txt.split z ", ").zip cs, cellR p.2.2 p.1 ≠ none then some (((Txt.split z ", ").zip cs).map fun p => (cellR p.2.2 p.1).getD .non) else none
def sReadRowX (CT : Addr) : SpD := fun ds O k kx => ∃ (z : Str) (cs : List Col) (at_ : Int), ds = [.str z, .lst (cs.map colD), .int at_] ∧ z.length ≤ 1000 ∧ cs.length ≤ 1000 ∧ (∀ r, rowIn cs z = some r → k (.lst r) O) ∧ (rowIn cs z = none → kx CT [("at", .int at_)] O)
theorem pm_readRowX (Dd : Df K mg "_read_row" s__read_row p__read_row) (h_cell : PmX P w K mg base "read_cell" 3 (sReadCellX CT)) (b_len : mg "len" = none) (b_zip : mg "zip" = none) (h_it : PeG K mg "InvalidText" CT "at") : PmX P w K mg base "_read_row" 4 (sReadRowX CT) := by
  refine PmX.of Dd sc__read_row (fun ds O k kx h => by obtain ⟨_, _, _, h, _⟩ := h; rw [h]; rfl) (fun f cdv A outer s H E hg hr L0 ds O k kx hS tx => ?_)
  obtain ⟨z, cs, at_, rfl, hz, hcz, hk, hx⟩ := hS
  have hsp := split_comma hz
  refine with_vaX (x := "line") (i := 0) ⟨rfl, by walk_at "vis", by decide, by decide⟩ fun va0 => ?_
  refine with_vaX (x := "columns") (i := 1) ⟨rfl, by walk_at "vis", by decide, by decide⟩ fun va1 => ?_
  refine with_vaX (x := "at") (i := 2) ⟨rfl, by walk_at "vis", by decide, by decide⟩ fun va2 => ?_
  refine with_vaX (x := "words") (i := 3) ⟨rfl, by walk_at "vis", by decide, by decide⟩ fun va3 => ?_
  refine with_vsX (x := "words") (i := 3) ⟨sc__read_row.nd, rfl, by walk_at "loc", .inl rfl⟩ fun vs3 => ?_
  refine with_pX (⟨rfl, b_len, by decide +kernel, by decide, by decide⟩ : Bn (Bx P w K mg base n__read_row "_read_row" s__read_row f cdv A outer s H E) "len" "len") fun bn_len => ?_
  have kx_it : KxG (Bx P w K mg base n__read_row "_read_row" s__read_row f cdv A outer s H E) "InvalidText" CT "at" := h_it.kx rfl rfl rfl (by decide)
  unfold rowIn at hk hx
  (conv => arg 3; whnf)
  refine xs_cons (ws_x ?_)
  walk_at "tv"
  refine wm_split (by decide +kernel) (split_room (by omega)) ?_
  show WSsx _ _ _ _ _ _
  refine xs_cons (xs_if ?_)
  walk_at "tv"
  · rename_i hc
    have hl : (Txt.split z ", ").length = cs.length := by
      rw [List.length_map, List.length_map] at hc
      omega
    refine xs_nil ?_
    show WSsx _ _ _ _ _ _
    refine xs_one (xs_ret ?_)
    refine ex_lc [("word", 4), ("column", 5)] (.tup [.nm 4, .nm 5]) rfl rfl tx rfl sc__read_row.nd rfl (fun _ => rfl) (fun s0 H0 C0 cl0 fp0 xe => pg_tup rfl (pgs_cons (pg_name (i := 4) sc__read_row.nd rfl (Or.inl rfl) (Or.inr rfl)) (pgs_cons (pg_name (i := 5) sc__read_row.nd rfl (Or.inl rfl) (Or.inr rfl)) pgs_nil))) (by decide) ?_
    refine it_zipL rfl b_zip rfl rfl ?_
    walk_at "tv"
    refine ⟨(Txt.split z ", ").map D.str, cs.map colD, rfl, ?_⟩
    have ez : zipD ((Txt.split z ", ").map D.str) (cs.map colD) = ((Txt.split z ", ").zip cs).map fun p => .tup [.str p.1, colD p.2] := by
      rw [zip_cols, List.zip_map_left, List.map_map]
      rfl
    rw [ez]
    refine lcx_map ((Txt.split z ", ").zip cs) (fun p => .tup [.str p.1, colD p.2]) (fun p => cellR p.2.2 p.1) (by rw [List.length_zip]; omega) (fun i p hp hprev O2 sb => ⟨_, rfl, fun s0 H0 C0 cl0 fp0 xe Lc txc => ?_⟩) (fun hall => ?_)
    · have hm := List.mem_of_getElem? hp
      have hpl : p.1.length ≤ 1000 := Nat.le_trans (split_mem sp_comma (List.of_mem_zip hm).1) hz
      refine e_vaX (x := "word") (i := 4) ⟨rfl, by walk_at "vis", by decide, by decide⟩ fun va4 => ?_
      refine e_vaX (x := "column") (i := 5) ⟨rfl, by walk_at "vis", by decide, by decide⟩ fun va5 => ?_
      refine e_vaX (x := "at") (i := 2) ⟨rfl, by walk_at "vis", by decide, by decide⟩ fun va2 => ?_
      refine e_knX (h_cell.kn rfl rfl rfl rfl rfl rfl (by decide)) fun kn_cell => ?_
      (with_reducible refine' ex_callC kn_cell txc ?q1 ?q2 ?q3 ?q4 ?_); (case q1 => exact hg); (case q2 => exact Room.mono hr (by decide)); (case q3 => rfl); (case q4 => rfl)
      walk_at "tv"
      exact ⟨p.1, p.2.2, at_, rfl, hpl, fun d hd => ⟨rfl, hd⟩, fun hn => ⟨O, sb _ (.refl _), hx (if_neg fun h => h.2 p hm hn)⟩⟩
    · exact Ret.of (hk _ (if_pos ⟨hl, hall⟩))
  · rename_i hc
    refine xs_one (xs_raiseG (j := 0) rfl tx kx_it (Room.mono hr (by decide)) rfl rfl ?_)
    walk_at "tv"
    refine hx (if_neg fun h => hc ?_)
    rw [List.length_map, List.length_map, h.1]
end
/-! ### a table read, right or wrong -/
def cols2 (ws : List (List Str)) : List Col := ws.map fun w => (w.headD "", (w.drop 1).headD "")
def firstBad (cs : List Col) : Nat → List Str → Option Nat
  | _, [] => none
  | i, z :: zs => if rowIn cs z = none then some i else firstBad cs (i + 1) zs
/-- the table that a text tells, or the number of the first line that is none -/
@[irreducible] def tabIn (z : Str) : Nat ⊕ (List Col × List (List D)) := match Txt.split z "\n" with
  | [] => .inl 0
  | l0 :: ls => if colsB (colsIn l0) = false then .inl 0 else match firstBad (cols2 (colsIn l0)) 1 ls with
    | some i => .inl i
    | none => .inr (cols2 (colsIn l0), ls.map fun l => (rowIn (cols2 (colsIn l0)) l).getD [])
theorem bad_none {cs : List Col} : ∀ {ls : List Str} {n : Nat}, (∀ l ∈ ls, rowIn cs l ≠ none) → firstBad cs n ls = none
  | [], _, _ => rfl
  | l :: ls, n, h => by
    rw [firstBad, if_neg (h l List.mem_cons_self)]
    exact bad_none fun x hx => h x (List.mem_cons_of_mem _ hx)
theorem bad_at {cs : List Col} : ∀ {ls : List Str} {n i : Nat} {l : Str}, ls[i]? = some l → (∀ (j : Nat) (x : Str), j < i → ls[j]? = some x → rowIn cs x ≠ none) → rowIn cs l = none → firstBad cs n ls = some (n + i)
  | [], _, _, _, h, _, _ => by simp at h
  | a :: ls, n, 0, l, h, _, hl => by
    obtain rfl : a = l := by simpa using h
    rw [firstBad, if_pos hl]
    rfl
  | a :: ls, n, i + 1, l, h, hp, hl => by
    rw [firstBad, if_neg (hp 0 a (Nat.succ_pos i) rfl), bad_at (i := i) (by simpa using h) (fun j x hj hx => hp (j + 1) x (Nat.succ_lt_succ hj) (by simpa using hx)) hl]
    congr 1
    omega
theorem cols2_w2 {ws : List (List Str)} (h : colsB ws = true) : (cols2 ws).map w2 = ws := by
  unfold colsB at h
  simp only [Bool.and_eq_true, List.all_eq_true] at h
  unfold cols2
  rw [List.map_map]
  refine (List.map_congr_left fun w hw => ?_).trans (List.map_id ws)
  obtain ⟨a, b, rfl⟩ := colB_hd (h.2.1 w hw)
  rfl
theorem cok_in2 {l : Str} (hl : l.length ≤ 1000) (hn : (Txt.split l ", ").length ≤ 10) (h : colsB (colsIn l) = true) : COk (cols2 (colsIn l)) := by
  have e := cols2_w2 h
  refine ⟨by rw [e]; exact h, ?_, fun c hc => ?_⟩
  · unfold cols2 colsIn
    rw [List.length_map, List.length_map]
    exact hn
  · have hw : w2 c ∈ colsIn l := by rw [← e]; exact List.mem_map.mpr ⟨c, hc, rfl⟩
    have hy : ∀ y ∈ w2 c, y.length ≤ 1000 := fun y hy => by
      unfold colsIn at hw
      obtain ⟨x, hx1, ex⟩ := List.mem_map.mp hw
      rw [← ex] at hy
      have a := split_mem sp_comma hx1
      have b := split_mem sp_blank hy
      omega
    exact ⟨hy _ (by unfold w2; exact List.mem_cons_self), hy _ (by unfold w2; exact List.mem_cons_of_mem _ List.mem_cons_self)⟩
theorem cell_in {s z : Str} {d : D} (h : cellR s z = some d) : CellOk s d := by
  unfold cellR at h
  split at h
  · cases h
    exact .inl rfl
  · split at h
    · rename_i q
      cases h
      refine .inr (.inl ⟨q.1, _, rfl, ?_⟩)
      have q2 := q.2
      unfold quotB at q2
      simp only [Bool.and_eq_true] at q2
      have q3 := q2.2.2.2
      have q4 := q3
      unfold txtB at q4
      simp only [Bool.and_eq_true, decide_eq_true_eq] at q4
      exact ⟨Nat.le_trans q4.1 (by decide), q3⟩
    · split at h
      · rename_i q
        cases h
        refine .inr (.inr ⟨by rw [q.1]; decide +kernel, _, rfl, ?_⟩)
        have q2 := q.2
        unfold decB at q2
        simp only [Bool.and_eq_true] at q2
        exact q2.2.2.2.1
      · cases h
theorem row_in {cs : List Col} {z : Str} {r : List D} (h : rowIn cs z = some r) : RowOk cs r := by
  unfold rowIn at h
  split at h
  · rename_i q
    cases h
    obtain ⟨q1, q2⟩ := q
    refine ⟨by rw [List.length_map, List.length_zip]; omega, fun p hp => ?_⟩
    obtain ⟨i, hi⟩ := List.getElem?_of_mem hp
    rw [List.getElem?_zip_eq_some, List.getElem?_map] at hi
    obtain ⟨h1, h2⟩ := hi
    cases hz : ((Txt.split z ", ").zip cs)[i]? with
    | none => rw [hz] at h1; cases h1
    | some q =>
      rw [hz] at h1
      have e1 : (cellR q.2.2 q.1).getD .non = p.1 := Option.some.inj h1
      have hm := List.mem_of_getElem? hz
      rw [List.getElem?_zip_eq_some] at hz
      have e2 : q.2 = p.2 := Option.some.inj (hz.2.symm.trans h2)
      cases hc : cellR q.2.2 q.1 with
      | none => exact absurd hc (q2 q hm)
      | some d =>
        rw [hc] at e1
        rw [← e2, ← e1]
        exact cell_in hc
  · cases h
theorem cut_tail (a : D) (m : List D) : DL.cutD (a :: m) (some 1) none = m := by
  unfold DL.cutD
  have i1 : HT.sIx (a :: m).length 0 (some 1) = 1 := by
    show HT.sIx _ 0 (some ((1 : Nat) : Int)) = 1
    rw [HT.sIx_nat, List.length_cons]
    omega
  rw [i1, HT.sIx_none, List.length_cons]
  show List.take (m.length + 1 - 1) m = m
  rw [Nat.add_sub_cancel, List.take_length]
theorem enum_lines (ls : List Str) : enumF 1 (ls.map D.str) = ls.zipIdx.map fun p => .tup [.int (1 + (p.2 : Nat)), .str p.1] := by
  unfold enumF
  rw [List.zipIdx_map, List.map_map]
  rfl
theorem rows_of {cs : List Col} {ls : List Str} (h : ∀ p ∈ ls.zipIdx, (rowIn cs p.1).map D.lst ≠ none) : ls.zipIdx.map (fun p => ((rowIn cs p.1).map D.lst).getD .non) = (ls.map fun l => (rowIn cs l).getD []).map D.lst ∧ ∀ l ∈ ls, rowIn cs l ≠ none := by
  have key : ∀ l ∈ ls, rowIn cs l ≠ none := fun l hl z => by
    obtain ⟨i, hi⟩ := List.getElem?_of_mem hl
    have hm : (l, i) ∈ ls.zipIdx := List.mem_of_getElem? (i := i) (by rw [List.getElem?_zipIdx, hi]; simp)
    exact h _ hm (by rw [z]; rfl)
  refine ⟨?_, key⟩
  have e : ls.zipIdx.map (fun p => ((rowIn cs p.1).map D.lst).getD .non) = (ls.zipIdx.map Prod.fst).map fun l => ((rowIn cs l).map D.lst).getD .non := by
    rw [List.map_map]
    rfl
  rw [e, List.zipIdx_map_fst, List.map_map]
  refine List.map_congr_left fun l hl => ?_
  cases q : rowIn cs l with
  | none => exact absurd q (key l hl)
  | some r => simp [q]
section
variable {C CT : Addr}
local macro_rules | `(tactic| walk_at "t1") => `(tactic| first
  | ((with_reducible refine' we_bm (T := "str") (id := "str.split") PySem.F.plainAttrs_str PySem.F.slot_str_split ?a ?b ?c ?d ?e ?f ?_); (case a => rfl); (case b => rfl); (case c => rfl); (case d => rfl); (case e => rfl); (case f => rfl))
  | ((with_reducible refine' wsl_list ?d ?_); (case d => walk_at "sq"))
  | (with_reducible refine' wk_nil ?_)
  | (with_reducible refine' wk_cons ?_)
  | walk_at "s1")
local macro_rules | `(tactic| walk_at "tv") => `(tactic| repeat' (walk_at "t1"))
def sTReadX (C CT : Addr) : SpD := fun ds O k kx => ∃ z : Str, ds = [.own C, .str z] ∧ z.length ≤ 1000 ∧ (Txt.split z "\n").length ≤ 101 ∧ (∀ l0 ls, Txt.split z "\n" = l0 :: ls → (Txt.split l0 ", ").length ≤ 10) ∧
  (∀ i, tabIn z = .inl i → kx CT [("at", .int (i : Nat))] O) ∧ (∀ cs rs, tabIn z = .inr (cs, rs) → TbOk cs rs → k (.ins C (tabF cs rs)) O)
theorem pm_treadX (Dd : DnC K C "read" "Table.read" s_Table_read) (h_cols : PmX P w K mg base "_read_columns" 4 (sReadColsX CT)) (h_row : PmX P w K mg base "_read_row" 4 (sReadRowX CT)) (h_make : Pc P w K mg base "Table" C 5 (sTab C)) (b_enum : mg "enumerate" = none) : Pcm P w K mg base C "read" 7 (sTReadX C CT) := by
  refine Pcm.of (j := 6) Dd sc_Table_read (fun ds O k kx h => by obtain ⟨_, h, _⟩ := h; rw [h]; rfl) (fun _ _ _ _ _ _ us hl => match us, hl with | [_, _], _ => rfl) (fun f cdv A outer s H E hg hr L0 ds O k kx hS tx => ?_)
  obtain ⟨z, rfl, hz, hn, hc, hx, hk⟩ := hS
  refine with_vaX (x := "cls") (i := 0) ⟨rfl, by walk_at "vis", by decide, by decide⟩ fun va0 => ?_
  refine with_vaX (x := "text") (i := 1) ⟨rfl, by walk_at "vis", by decide, by decide⟩ fun va1 => ?_
  refine with_vaX (x := "lines") (i := 2) ⟨rfl, by walk_at "vis", by decide, by decide⟩ fun va2 => ?_
  refine with_vaX (x := "columns") (i := 3) ⟨rfl, by walk_at "vis", by decide, by decide⟩ fun va3 => ?_
  refine with_vaX (x := "rows") (i := 4) ⟨rfl, by walk_at "vis", by decide, by decide⟩ fun va4 => ?_
  refine with_vsX (x := "lines") (i := 2) ⟨sc_Table_read.nd, rfl, by walk_at "loc", .inl rfl⟩ fun vs2 => ?_
  refine with_vsX (x := "columns") (i := 3) ⟨sc_Table_read.nd, rfl, by walk_at "loc", .inl rfl⟩ fun vs3 => ?_
  refine with_vsX (x := "rows") (i := 4) ⟨sc_Table_read.nd, rfl, by walk_at "loc", .inl rfl⟩ fun vs4 => ?_
  refine with_pX (h_cols.kn (X := Bx P w K mg base n_Table_read "Table.read" s_Table_read f cdv A outer s H E) rfl rfl rfl rfl rfl rfl (by decide)) fun kn_cols => ?_
  have spn := split_nn (z := z) sp_line
  cases hsp : Txt.split z "\n" with
  | nil => exact absurd hsp spn
  | cons l0 ls =>
    rw [hsp] at hn
    have hc0 := hc l0 ls hsp
    have t0 : colsB (colsIn l0) = false → tabIn z = .inl 0 := fun hb => by
      unfold tabIn
      rw [hsp]
      exact if_pos hb
    have t1 : ∀ i, colsB (colsIn l0) = true → firstBad (cols2 (colsIn l0)) 1 ls = some i → tabIn z = .inl i := fun i hb hi => by
      unfold tabIn
      rw [hsp]
      simp only [hb, hi]
      rfl
    have t2 : colsB (colsIn l0) = true → firstBad (cols2 (colsIn l0)) 1 ls = none → tabIn z = .inr (cols2 (colsIn l0), ls.map fun l => (rowIn (cols2 (colsIn l0)) l).getD []) := fun hb hi => by
      unfold tabIn
      rw [hsp]
      simp only [hb, hi]
      rfl
    have hlen : ∀ l ∈ l0 :: ls, l.length ≤ 1000 := fun l hl => by
      rw [← hsp] at hl
      have := split_mem sp_line hl
      omega
    (conv => arg 3; whnf)
    refine xs_cons (ws_x ?_)
    walk_at "tv"
    refine wm_split (by decide +kernel) (split_room (by omega)) ?_
    rw [hsp]
    show WSsx _ _ _ _ _ _
    refine xs_cons (xs_set (i := 3) ⟨sc_Table_read.nd, rfl, by walk_at "loc", .inl rfl⟩ rfl ?_)
    (with_reducible refine' ex_callN kn_cols tx ?q1 ?q2 ?q3 ?q4 ?_); (case q1 => exact hg); (case q2 => exact Room.mono hr (by decide)); (case q3 => rfl); (case q4 => rfl)
    walk_at "tv"
    refine wi_list sq_lst (atI_nat (j := 0) rfl) ?_
    walk_at "tv"
    refine ⟨l0, rfl, hlen l0 List.mem_cons_self, fun hb => ?_, fun hb => ⟨O, .refl _, hx 0 (t0 hb)⟩⟩
    have co := cok_in2 (hlen l0 List.mem_cons_self) hc0 hb
    have csz := co.sz
    rw [show (colsIn l0).map colW = (cols2 (colsIn l0)).map colD by rw [cols_w2, cols2_w2 hb]]
    show WSsx _ _ _ _ _ _
    refine xs_cons ?_
    (with_reducible refine' xs_setLc (j := 4) [("at", 5), ("line", 6)] (.tup [.nm 5, .nm 6]) ?c0 ?c01 tx ?c1 ?c2 ?c3 ?c4 ?c5 ?c6 ?c8 ?c9 ?c10 ?_); (case c0 => rfl); (case c01 => rfl); (case c1 => rfl); (case c2 => exact sc_Table_read.nd); (case c3 => rfl); (case c4 => rfl); (case c5 => rfl); (case c6 => rfl); (case c8 => exact fun _ => rfl); (case c9 => exact fun s0 H0 C0 cl0 fp0 xe => pg_tup rfl (pgs_cons (pg_name (i := 5) sc_Table_read.nd rfl (Or.inl rfl) (Or.inr rfl)) (pgs_cons (pg_name (i := 6) sc_Table_read.nd rfl (Or.inl rfl) (Or.inr rfl)) pgs_nil))); (case c10 => decide)
    refine it_from rfl b_enum rfl rfl rfl rfl rfl ?_
    walk_at "tv"
    refine ⟨_, 1, rfl, rfl, by decide, by decide, ?_⟩
    rw [show DL.cutD ((l0 :: ls).map D.str) (some 1) none = ls.map D.str by rw [List.map_cons, cut_tail], enum_lines]
    rw [List.length_cons] at hn
    refine lcx_map ls.zipIdx (fun p => .tup [.int (1 + (p.2 : Nat)), .str p.1]) (fun p => (rowIn (cols2 (colsIn l0)) p.1).map D.lst) (by rw [List.length_zipIdx]; omega) (fun i p hp hprev O2 sb => ⟨_, rfl, fun s0 H0 C0 cl0 fp0 xe Lc txc => ?_⟩) (fun hall => ?_)
    · obtain ⟨l, i2⟩ := p
      have hq : ls[i]? = some l ∧ i2 = i := by
        rw [List.getElem?_zipIdx] at hp
        cases hl : ls[i]? with
        | none => rw [hl] at hp; cases hp
        | some l' =>
          rw [hl] at hp
          have := Option.some.inj hp
          simp only [Prod.mk.injEq] at this
          exact ⟨by rw [this.1], by omega⟩
      obtain ⟨hl, rfl⟩ := hq
      refine e_vaX (x := "at") (i := 5) ⟨rfl, by walk_at "vis", by decide, by decide⟩ fun va5 => ?_
      refine e_vaX (x := "line") (i := 6) ⟨rfl, by walk_at "vis", by decide, by decide⟩ fun va6 => ?_
      refine e_vaX (x := "columns") (i := 3) ⟨rfl, by walk_at "vis", by decide, by decide⟩ fun va3 => ?_
      refine e_knX (h_row.kn rfl rfl rfl rfl rfl rfl (by decide)) fun kn_row => ?_
      (with_reducible refine' ex_callC kn_row txc ?q5 ?q6 ?q7 ?q8 ?_); (case q5 => exact hg); (case q6 => exact Room.mono hr (by decide)); (case q7 => rfl); (case q8 => rfl)
      walk_at "tv"
      refine ⟨l, _, _, rfl, hlen l (List.mem_cons_of_mem _ (List.mem_of_getElem? hl)), by omega, fun r hr => ⟨rfl, by rw [hr]; rfl⟩, fun hn => ⟨O, sb _ (.refl _), ?_⟩⟩
      have e : (1 + (i2 : Int)) = ((1 + i2 : Nat) : Int) := by omega
      rw [e]
      refine hx _ (t1 _ hb (bad_at hl (fun j x hj hx2 z => ?_) hn))
      exact hprev j (x, j) hj (by rw [List.getElem?_zipIdx, hx2]; simp) (by rw [z]; rfl)
    · obtain ⟨er, hrow⟩ := rows_of hall
      rw [er]
      have ok : TbOk (cols2 (colsIn l0)) (ls.map fun l => (rowIn (cols2 (colsIn l0)) l).getD []) := ⟨co, by rw [List.length_map]; omega, fun r hr => by
        obtain ⟨l, hl, rfl⟩ := List.mem_map.mp hr
        cases q : rowIn (cols2 (colsIn l0)) l with
        | none => exact absurd q (hrow l hl)
        | some r => exact row_in q⟩
      have hk := hk _ _ (t2 hb (bad_none hrow)) ok
      generalize (ls.map fun l => (rowIn (cols2 (colsIn l0)) l).getD []) = rs at ok hk ⊢
      generalize cols2 (colsIn l0) = cs at ok hk co ⊢
      show WSsx _ _ _ _ _ _
      refine wss_x ?_
      walk_at "tv"
      obtain ⟨_, hz2, hrow2⟩ := ok
      (with_reducible refine' we_makeS (i := 0) (C := C) ?m1 ?m2 ?m3 ?m4 ?m5 ?m6 ?m7 ?_); (case m1 => exact h_make.kl rfl rfl rfl rfl rfl); (case m2 => assumption); (case m3 => rfl); (case m4 => exact hg); (case m5 => exact Room.mono hr (by decide)); (case m6 => rfl); (case m7 => rfl)
      walk_at "tv"
      intro p hp
      refine ⟨p, false, false, cs, rs.map fun r => (true, r), ?_, ⟨co, by rw [List.length_map]; exact hz2, fun q hq => ?_⟩, put_same, rfl, ?_⟩
      · rw [List.map_map]
        rfl
      · obtain ⟨r, hr1, rfl⟩ := List.mem_map.mp hq
        exact ⟨hrow2 r hr1, fun e => nomatch e⟩
      · rw [put_put, List.map_map]
        have e : rs.map ((fun x : Bool × List D => x.2) ∘ fun r => (true, r)) = rs := List.map_id rs
        rw [e]
        exact fz_put hp (Ret.of hk)
end
/-! ### the law's own look at words -/
abbrev s__law_name_in : Stmt := top 52
abbrev n__law_name_in : List Str := ["_law_word_here", "_law_sign"]
abbrev p__law_name_in : List Str := ["_law_word_here"]
theorem sc__law_name_in : FnScope n__law_name_in p__law_name_in (defScope s__law_name_in) := ⟨rfl, rfl, rfl, by decide +kernel, rfl, by decide +kernel, by decide +kernel⟩
abbrev s__law_cell_in : Stmt := top 53
abbrev n__law_cell_in : List Str := ["_law_word_here", "_law_inner", "_law_odd", "_law_digits", "_law_sign"]
abbrev p__law_cell_in : List Str := ["_law_word_here"]
theorem sc__law_cell_in : FnScope n__law_cell_in p__law_cell_in (defScope s__law_cell_in) := ⟨rfl, rfl, rfl, by decide +kernel, rfl, by decide +kernel, by decide +kernel⟩
abbrev s__law_bare : Stmt := top 45
abbrev n__law_bare : List Str := ["_law_text"]
abbrev p__law_bare : List Str := ["_law_text"]
theorem sc__law_bare : FnScope n__law_bare p__law_bare (defScope s__law_bare) := ⟨rfl, rfl, rfl, by decide +kernel, rfl, by decide +kernel, by decide +kernel⟩
local macro_rules | `(tactic| walk_at "t1") => `(tactic| first
  | ((with_reducible refine' wc_lenS ?h ?_); (case h => assumption))
  | walk_at "s1")
local macro_rules | `(tactic| walk_at "tv") => `(tactic| repeat' (walk_at "t1"))
def sNameIn : SpD := fun ds O k _ => ∃ z : Str, ds = [.str z] ∧ z.length ≤ 1000 ∧ PyData.strOk z = true ∧ k (.bl (nameB z)) O
theorem odd_nil {l : List Nat} {S : List Nat} [i : Decidable ((l.filter fun c => !decide (c ∈ S)) = [])] : decide ((l.filter fun c => !decide (c ∈ S)) = []) = l.all fun c => decide (c ∈ S) := by
  have key : ((l.filter fun c => !decide (c ∈ S)) = []) ↔ (l.all fun c => decide (c ∈ S)) = true := by
    rw [List.filter_eq_nil_iff, List.all_eq_true]
    refine forall_congr' fun c => forall_congr' fun _ => ?_
    cases decide (c ∈ S) <;> simp
  cases h : l.all fun c => decide (c ∈ S) with
  | true => exact decide_eq_true (key.mpr h)
  | false => exact decide_eq_false fun z => by rw [key.mp z] at h; cases h
theorem sign_ok {z : Str} {c : Nat} (h : PyData.strOk z = true) (hc : c ∈ z.cps.toList) : PyData.strOk ⟨#[c]⟩ = true := by
  unfold PyData.strOk at h ⊢
  rw [Array.all_eq_true'] at h ⊢
  intro d hd
  have e : d = c := by simpa using hd
  rw [e]
  exact h c (Array.mem_toList_iff.mp hc)
theorem signs_py : ∀ l : List Nat, (∀ c ∈ l, PyData.strOk ⟨#[c]⟩ = true) → D.arePy (l.map fun c => D.str ⟨#[c]⟩) = true ∧ PyData.canLayAll0 (D.pys (l.map fun c => D.str ⟨#[c]⟩)) = true ∧ PyData.depthAll (D.pys (l.map fun c => D.str ⟨#[c]⟩)) ≤ 0
  | [], _ => ⟨rfl, rfl, Nat.le_refl _⟩
  | c :: l, h => by
    obtain ⟨a1, a2, a3⟩ := signs_py l fun d hd => h d (List.mem_cons_of_mem _ hd)
    rw [List.map_cons, D.arePy, D.pys, PyData.canLayAll0, PyData.depthAll, a1, a2]
    exact ⟨rfl, by rw [D.py, PyData.canLay0, h c List.mem_cons_self]; rfl, Nat.max_le.mpr ⟨Nat.le_refl _, a3⟩⟩
theorem wo_eqSigns {X : Cx} {O : Ow} {k : KD} {l : List Nat} (hu : X.A.units + 64 < cLine) (ho : ∀ c ∈ l, PyData.strOk ⟨#[c]⟩ = true) (h : k (.bl (decide (l = []))) O) : WO X (compareOp .Eq) (.lst (l.map fun c => .str ⟨#[c]⟩)) (.lst []) O k := by
  obtain ⟨a1, a2, a3⟩ := signs_py l ho
  have sh : SeqAt.shaped (D.lst (l.map fun c => D.str ⟨#[c]⟩)).py = true := by
    unfold SeqAt.shaped
    rw [D.py, PyData.canLay0, a2, PyData.depth, decide_eq_true (by omega)]
    rfl
  refine wo_eqD hu (by rw [D.isPy]; exact a1) rfl sh rfl ?_
  have e : PyData.eqv (D.lst (l.map fun c => D.str ⟨#[c]⟩)).py (D.lst []).py = decide (l = []) := by
    simp only [D.py, PyData.eqv]
    cases l with
    | nil => simp [D.pys, PyData.eqvAll]
    | cons a b => simp [D.pys, PyData.eqvAll]
  rw [e]
  exact h
theorem pm_nameIn (Dd : Df K mg "_law_name_in" s__law_name_in p__law_name_in) (b_len : mg "len" = none) : Pm P w K mg base "_law_name_in" 1 sNameIn := by
  refine Pm.of Dd sc__law_name_in (fun ds O k kx h => by obtain ⟨_, h, _⟩ := h; rw [h]; rfl) (fun f cdv A outer s H E hg hr ds O k kx hS => ?_)
  obtain ⟨z, rfl, hz, ho, hk⟩ := hS
  have hz2 : z.length ≤ sizeLine := Nat.le_trans hz (by decide)
  refine with_va (x := "_law_word_here") (i := 0) ⟨rfl, by walk_at "vis", by decide, by decide⟩ fun va0 => ?_
  refine with_bn (x := "len") (id := "len") ⟨rfl, b_len, by decide +kernel, by decide, by decide⟩ fun bn_len => ?_
  walk_at "body"
  walk_at "tv"
  · refine wo_inT rfl rfl rfl rfl ?_
    refine ⟨barB z, rfl, iteBo (fun hb => ?_) fun hb => ?_⟩
    · walk_at "tv"
      refine Ret.of (bl_eq ?_ hk)
      unfold nameB
      rw [hb, Bool.not_true, Bool.false_and, Bool.and_false, Bool.and_false]
    · walk_at "tv"
      refine we_lc [("_law_sign", 1)] (.nm 1) rfl sc__law_name_in.nd rfl (.inr ⟨_, rfl⟩) (fun _ => rfl) (fun s0 H0 C0 cl0 fp0 => pg_name (i := 1) sc__law_name_in.nd rfl (Or.inl rfl) (Or.inr rfl)) (by decide) ?_
      refine it_str ?_
      walk_at "tv"
      refine lc_filter z.cps.toList (fun c => .str ⟨#[c]⟩) (fun c => .str ⟨#[c]⟩) (fun c => !decide (c ∈ lowS.cps.toList)) (by rw [← zlen]; omega) (fun c hc O2 ag => ⟨_, rfl, fun s0 H0 C0 cl0 fp0 => ?_, fun _ s0 H0 C0 cl0 fp0 => ?_⟩) ?_
      · refine wt_cmp rfl ?_
        refine e_va (x := "_law_sign") (i := 1) ⟨rfl, by walk_at "vis", by decide, by decide⟩ fun va1 => ?_
        walk_at "tv"
        exact wo_notInSign ⟨_, rfl, rfl, rfl⟩
      · refine e_va (x := "_law_sign") (i := 1) ⟨rfl, by walk_at "vis", by decide, by decide⟩ fun va1 => ?_
        walk_at "tv"
        exact ⟨rfl, rfl⟩
      walk_at "tv"
      refine we_lst ?_
      walk_at "tv"
      refine wo_eqSigns (Room.units hr) (fun c hc => sign_ok ho (List.mem_filter.mp hc).1) (Ret.of (bl_eq ?_ hk))
      rw [odd_nil]
      unfold nameB
      rw [hb, decide_eq_true (show 1 ≤ z.length by omega), decide_eq_true (show z.length ≤ 4 by omega)]
      rfl
  all_goals
    refine Ret.of (bl_eq ?_ hk)
    cases h : nameB z
    · rfl
    · unfold nameB at h
      simp only [Bool.and_eq_true,
          decide_eq_true_eq] at h
      omega
/-! ### numbers as words: no leading zero -/
section
open PySem.NumText PySem.W.KIN
theorem of_to {c : Nat} (h : 48 ≤ c ∧ c ≤ 57) : (Char.ofNat c).toNat = c := by
  have key : ∀ c, c < 58 → (Char.ofNat c).toNat = c := by decide
  exact key c (by omega)
theorem map_of_to : ∀ {l : List Nat}, AllDigits l → (l.map Char.ofNat).map Char.toNat = l
  | [], _ => rfl
  | c :: l, h => by
    rw [List.map_cons, List.map_cons, of_to (h c List.mem_cons_self), map_of_to fun d hd => h d (List.mem_cons_of_mem _ hd)]
theorem digs_back {l : List Nat} (hd : AllDigits l) (h1 : 1 ≤ l.length) (h : l.length = 1 ∨ l.head? ≠ some 48) : (Nat.toDigits 10 (digitsVal l)).map Char.toNat = l := by
  obtain ⟨n, hn⟩ : ∃ n, l.length = n + 1 := ⟨l.length - 1, by omega⟩
  rw [toDigits_digitsVal n l hn hd ?_, map_of_to hd]
  rcases h with h | h
  · exact .inl (by omega)
  · cases l with
    | nil => simp at h1
    | cons c r =>
      have a := hd c List.mem_cons_self
      exact .inr ⟨c, r, rfl, by
        have : c ≠ 48 := fun e => h (by rw [e]; rfl)
        omega⟩
/-- a word of digits is the text of its number just where no zero leads -/
theorem dec_text {z : Str} (h1 : 1 ≤ (digL z).length) (hd : AllDigits (digL z)) : (toString (decN z) : Str) = z ↔ ¬ ((digL z).head? = some 48 ∧ z ≠ "0") := by
  constructor
  · rintro e ⟨hh, hz⟩
    have g := num_digL (n := decN z)
    rw [e] at g
    have val : (decN z).natAbs = digitsVal (digL z) := by
      unfold decN
      split <;> omega
    rw [val, toDigits_all _ hd] at g
    cases hw : (digL z).dropWhile (· == 48) with
    | nil =>
      rw [hw] at g
      have v0 : digitsVal (digL z) = 0 := by rw [g]; decide
      have n0 : decN z = 0 := by omega
      rw [n0] at e
      exact hz e.symm
    | cons c r =>
      rw [hw] at g
      have hc : AllDigits (c :: r) := fun d hdm => hd d (List.dropWhile_sublist _ |>.mem (by rw [hw]; exact hdm))
      have g2 : digL z = c :: r := g.trans (map_of_to hc)
      rw [g2] at hh
      have ec : c = 48 := Option.some.inj hh
      have := List.head_dropWhile_not (fun x : Nat => x == 48) (l := digL z) (by rw [hw]; exact List.cons_ne_nil _ _)
      simp only [hw, List.head_cons, ec] at this
      exact absurd this (by decide)
  · intro h
    by_cases hz : z = "0"
    · rw [hz]
      decide +kernel
    · have hh : (digL z).head? ≠ some 48 := fun q => h ⟨q, hz⟩
      have back := digs_back hd h1 (.inr hh)
      refine str_ext ?_
      rw [show (toString (decN z) : Str).cps.toList = _ from num_tl]
      have pos : 0 < digitsVal (digL z) := by
        cases hl : digL z with
        | nil => rw [hl] at h1; simp at h1
        | cons c r =>
          rw [hl] at hh hd
          have a := hd c List.mem_cons_self
          exact digitsVal_pos (by
            have : c ≠ 48 := fun e => hh (by rw [e]; rfl)
            omega)
      unfold decN
      by_cases q : z.cps.toList.head? = some 45
      · rw [if_pos q, if_pos (by omega), show (-((digitsVal (digL z) : Nat) : Int)).natAbs = digitsVal (digL z) by omega, back]
        unfold digL
        rw [if_pos q]
        cases hz2 : z.cps.toList with
        | nil => rw [hz2] at q; cases q
        | cons a l =>
          rw [hz2] at q
          rw [show a = 45 from Option.some.inj q]
          rfl
      · rw [if_neg q, if_neg (by omega), show (((digitsVal (digL z) : Nat) : Int)).natAbs = digitsVal (digL z) by omega, back, List.nil_append]
        unfold digL
        rw [if_neg q]
end
/-! ### the cell that a word writes -/
local macro_rules | `(tactic| walk_at "t1") => `(tactic| first
  | ((with_reducible refine' wc_lenS ?h ?_); (case h => assumption))
  | ((with_reducible refine' wsl_str ?h ?_); (case h => assumption))
  | walk_at "s1")
local macro_rules | `(tactic| walk_at "tv") => `(tactic| repeat' (walk_at "t1"))
def sBare : SpD := fun ds O k _ => ∃ z : Str, ds = [.str z] ∧ z.length ≤ 1000 ∧ k (.str (Txt.rstripChars z " ")) O
theorem pm_bare (Dd : Df K mg "_law_bare" s__law_bare p__law_bare) : Pm P w K mg base "_law_bare" 1 sBare := by
  refine Pm.of Dd sc__law_bare (fun ds O k kx h => by obtain ⟨_, h, _⟩ := h; rw [h]; rfl) (fun f cdv A outer s H E hg hr ds O k kx hS => ?_)
  obtain ⟨z, rfl, hz, hk⟩ := hS
  refine with_va (x := "_law_text") (i := 0) ⟨rfl, by walk_at "vis", by decide, by decide⟩ fun va0 => ?_
  refine with_vs (x := "_law_text") (i := 0) ⟨sc__law_bare.nd, rfl, by walk_at "loc", .inl rfl⟩ fun vs0 => ?_
  walk_at "body"
  refine ws_cons (ws_while PassesOwn.never ?_)
  refine ⟨fun m Γ' O' => O' = O ∧ ∃ y : Str, Γ' = [some (.str y)] ∧ y.length = m ∧ y.length ≤ 1000 ∧ rs y.cps.toList = rs z.cps.toList, ⟨z.length, rfl, z, rfl, rfl, hz, rfl⟩, ?_⟩
  rintro m Γ' O' ⟨rfl, y, rfl, rfl, hy, hrs⟩
  have hys : y.length ≤ sizeLine := Nat.le_trans hy (by decide)
  walk_at "ev"
  · rcases bare_turn y with ⟨h1, h2, h3⟩ | ⟨h1, _⟩
    · exact ⟨_, h3, rfl, _, rfl, rfl, by omega, h2.trans hrs⟩
    · exact absurd ‹_› h1
  · rcases bare_turn y with ⟨h1, _, _⟩ | ⟨_, h2⟩
    · exact absurd h1 ‹_›
    · have e : y = Txt.rstripChars z " " := str_ext (by rw [rstrip_tl, ← hrs, h2])
      rw [← e] at hk
      exact Ret.of hk
theorem rst_len (z : Str) : (Txt.rstripChars z " ").length ≤ z.length := by
  rw [zlen, zlen, rstrip_tl]
  unfold rs
  rw [List.length_reverse]
  have h := (List.dropWhile_sublist b32 (l := z.cps.toList.reverse)).length_le
  rw [List.length_reverse] at h
  exact h
theorem mid_len {z : Str} (h : 1 < z.length) : (cutS z (some 1) (some (-1))).length = z.length - 2 := by
  rw [zlen, cut_tl]
  have e1 : HT.sIx z.length 0 (some 1) = 1 := by
    show HT.sIx _ _ (some ((1 : Nat) : Int)) = _
    rw [HT.sIx_nat]
    omega
  have e2 : HT.sIx z.length z.length (some (-1)) = z.length - 1 := by
    show ((-1 : Int) + ((z.length : Nat) : Int)).toNat = _
    omega
  rw [e1, e2, List.length_take, List.length_drop, ← zlen]
  omega
theorem dec_no {z : Str} (h : z.cps.toList.head? = some 34) : decB z = false := by
  have e : digL z = z.cps.toList := by
    unfold digL
    rw [h, if_neg (by decide)]
  unfold decB
  rw [e]
  cases hz : z.cps.toList with
  | nil => rw [hz] at h; cases h
  | cons a l =>
    rw [hz] at h
    rw [show a = 34 from Option.some.inj h, List.all_cons, decide_eq_false (show ¬ (34 : Nat) ∈ digS.cps.toList by decide +kernel), Bool.false_and, Bool.false_and, Bool.and_false, Bool.and_false]
theorem first_1 (z : Str) : (cutS z none (some 1)).cps.toList = z.cps.toList.take 1 := by
  rw [cut_tl, HT.sIx_none]
  have e : HT.sIx z.length z.length (some 1) = min 1 z.length := by
    show HT.sIx _ _ (some ((1 : Nat) : Int)) = _
    rw [HT.sIx_nat]
  rw [e, List.drop_zero, Nat.sub_zero]
  rw [zlen]
  cases z.cps.toList with
  | nil => rfl
  | cons a l => simp
theorem first_is {z : Str} {c : Nat} : cutS z none (some 1) = ⟨#[c]⟩ ↔ z.cps.toList.head? = some c := by
  constructor
  · intro h
    have e := first_1 z
    rw [h] at e
    cases hz : z.cps.toList with
    | nil => rw [hz] at e; cases e
    | cons a l =>
      rw [hz] at e
      have : [c] = [a] := e
      cases this
      rfl
  · intro h
    refine str_ext ?_
    rw [first_1]
    cases hz : z.cps.toList with
    | nil => rw [hz] at h; cases h
    | cons a l =>
      rw [hz] at h
      rw [show a = c from Option.some.inj h]
      rfl
theorem last_is {z : Str} {c : Nat} : cutS z (some (-1)) none = ⟨#[c]⟩ ↔ z.cps.toList.getLast? = some c := by
  have e := cut_last z
  constructor
  · intro h
    rw [h] at e
    rcases List.eq_nil_or_concat z.cps.toList with hz | ⟨m, a, hz⟩
    · rw [hz] at e; cases e
    · rw [hz, List.concat_eq_append, List.length_append, List.length_singleton, Nat.add_sub_cancel, List.drop_left] at e
      have : [c] = [a] := e
      cases this
      rw [hz, List.concat_eq_append, List.getLast?_append]
      rfl
  · intro h
    refine str_ext ?_
    rw [e]
    rcases List.eq_nil_or_concat z.cps.toList with hz | ⟨m, a, hz⟩
    · rw [hz] at h; cases h
    · rw [hz, List.concat_eq_append, List.getLast?_append] at h
      have ha : a = c := Option.some.inj h
      rw [hz, List.concat_eq_append, List.length_append, List.length_singleton, Nat.add_sub_cancel, List.drop_left, ha]
/-- what makes a word quoted -/
theorem quot_of {z : Str} (h1 : cutS z none (some 1) = "\"") (h2 : cutS z (some (-1)) none = "\"") (h3 : 1 < z.length) : quotB z = txtB (cutS z (some 1) (some (-1))) := by
  have a : Txt.startswith z "\"" = true := (starts1 z 34).trans (decide_eq_true (first_is.mp h1))
  have b : Txt.endswith z "\"" = true := (ends1 z 34).trans (decide_eq_true (last_is.mp h2))
  unfold quotB
  rw [a, b, decide_eq_true (show 2 ≤ z.length by omega)]
  rfl
theorem quot_no {z : Str} (h : ¬ (cutS z none (some 1) = "\"" ∧ cutS z (some (-1)) none = "\"" ∧ 1 < z.length)) : quotB z = false := by
  cases q : quotB z with
  | false => rfl
  | true =>
    unfold quotB at q
    simp only [Bool.and_eq_true,
        decide_eq_true_eq] at q
    obtain ⟨q1, q2, q3, _⟩ := q
    exact absurd ⟨first_is.mpr (of_decide_eq_true ((starts1 z 34).symm.trans q2)), last_is.mpr (of_decide_eq_true ((ends1 z 34).symm.trans q3)), by omega⟩ h
theorem wo_neSigns {X : Cx} {O : Ow} {k : KD} {l : List Nat} (hu : X.A.units + 64 < cLine) (ho : ∀ c ∈ l, PyData.strOk ⟨#[c]⟩ = true) (h : k (.bl (!decide (l = []))) O) : WO X (compareOp .NotEq) (.lst (l.map fun c => .str ⟨#[c]⟩)) (.lst []) O k := by
  obtain ⟨a1, a2, a3⟩ := signs_py l ho
  have sh : SeqAt.shaped (D.lst (l.map fun c => D.str ⟨#[c]⟩)).py = true := by
    unfold SeqAt.shaped
    rw [D.py, PyData.canLay0, a2, PyData.depth, decide_eq_true (by omega)]
    rfl
  refine wo_neD hu (by rw [D.isPy]; exact a1) rfl sh rfl ?_
  have e : PyData.eqv (D.lst (l.map fun c => D.str ⟨#[c]⟩)).py (D.lst []).py = decide (l = []) := by
    simp only [D.py, PyData.eqv]
    cases l with
    | nil => simp [D.pys, PyData.eqvAll]
    | cons a b => simp [D.pys, PyData.eqvAll]
  rw [e]
  exact h
/-- the cell that a word writes, in a list -/
@[irreducible] def cellL (z : Str) : List D := if z = "-" then [.non] else if quotB z = true then [.str (cutS z (some 1) (some (-1)))] else if decB z = true then [.int (decN z)] else []
def sCellIn : SpD := fun ds O k _ => ∃ z : Str, ds = [.str z] ∧ z.length ≤ 1000 ∧ PyData.strOk z = true ∧ k (.lst (cellL z)) O
section
open PySem.NumText PySem.W.KIN
theorem pm_cellIn (Dd : Df K mg "_law_cell_in" s__law_cell_in p__law_cell_in) (h_bare : Pm P w K mg base "_law_bare" 1 sBare) (b_len : mg "len" = none) (b_int : mg "int" = none) : Pm P w K mg base "_law_cell_in" 2 sCellIn := by
  refine Pm.of Dd sc__law_cell_in (fun ds O k kx h => by obtain ⟨_, h, _⟩ := h; rw [h]; rfl) (fun f cdv A outer s H E hg hr ds O k kx hS => ?_)
  obtain ⟨z, rfl, hz, ho, hk⟩ := hS
  have hz2 : z.length ≤ sizeLine := Nat.le_trans hz (by decide)
  refine with_va (x := "_law_word_here") (i := 0) ⟨rfl, by walk_at "vis", by decide, by decide⟩ fun va0 => ?_
  refine with_va (x := "_law_inner") (i := 1) ⟨rfl, by walk_at "vis", by decide, by decide⟩ fun va1 => ?_
  refine with_va (x := "_law_odd") (i := 2) ⟨rfl, by walk_at "vis", by decide, by decide⟩ fun va2 => ?_
  refine with_va (x := "_law_digits") (i := 3) ⟨rfl, by walk_at "vis", by decide, by decide⟩ fun va3 => ?_
  refine with_vs (x := "_law_inner") (i := 1) ⟨sc__law_cell_in.nd, rfl, by walk_at "loc", .inl rfl⟩ fun vs1 => ?_
  refine with_vs (x := "_law_odd") (i := 2) ⟨sc__law_cell_in.nd, rfl, by walk_at "loc", .inl rfl⟩ fun vs2 => ?_
  refine with_vs (x := "_law_digits") (i := 3) ⟨sc__law_cell_in.nd, rfl, by walk_at "loc", .inl rfl⟩ fun vs3 => ?_
  refine with_bn (x := "len") (id := "len") ⟨rfl, b_len, by decide +kernel, by decide, by decide⟩ fun bn_len => ?_
  refine with_bt (x := "int") (T := "int") ⟨rfl, b_int, by decide +kernel, by decide, by decide⟩ fun bt_int => ?_
  refine with_kn (h_bare.kn rfl rfl rfl rfl rfl rfl (by decide)) fun kn_bare => ?_
  generalize hbb : defBody s__law_cell_in = bb
  have cl : cellL z = if z = "-" then [.non] else if quotB z = true then [.str (cutS z (some 1) (some (-1)))] else if decB z = true then [.int (decN z)] else [] := by unfold cellL; rfl
  rw [cl] at hk
  clear cl
  subst hbb
  walk_at "body"
  refine ws_consK (P := fun Γ' O' => Γ' = gst n__law_cell_in.length [.str z] ∧ O' = O ∧ z ≠ "-") ?_ ?_
  · walk_at "tv"
    · rename_i h0
      rw [if_pos h0] at hk
      refine we_lst ?_
      walk_at "tv"
      exact Ret.of hk
    · exact ⟨rfl, rfl, ‹_›⟩
  rintro Γ' O' ⟨rfl, rfl, h0⟩
  rw [if_neg h0] at hk
  refine ws_consK (P := fun Γ' O2 => Γ' = gst n__law_cell_in.length [.str z] ∧ O2 = O' ∧ quotB z = false) ?_ ?_
  · walk_at "tv"
    · rename_i q1 q2 q3
      have q3 : 1 < z.length := by omega
      refine ⟨_, rfl, Nat.le_trans (len_cutZ z _ _) hz, ?_⟩
      have hin : (Txt.rstripChars (cutS z (some 1) (some (-1))) " ").length ≤ 1000 := Nat.le_trans (Nat.le_trans (rst_len _) (len_cutZ z _ _)) hz
      have hio : ∀ c ∈ (Txt.rstripChars (cutS z (some 1) (some (-1))) " ").cps.toList, c ∈ z.cps.toList := fun c hc => by
        rw [rstrip_tl] at hc
        have := rs_sub c hc
        rw [cut_tl] at this
        exact List.mem_of_mem_drop (List.mem_of_mem_take this)
      walk_at "tv"
      (with_reducible refine' ws_setLc (j := 2) [("_law_sign", 4)] (.nm 4) ?c1 ?c2 ?c3 ?c4 ?c5 ?c6 ?c7 ?c8 ?c9 ?c10 ?_); (case c1 => rfl); (case c2 => exact sc__law_cell_in.nd); (case c3 => rfl); (case c4 => rfl); (case c5 => rfl); (case c6 => rfl); (case c7 => exact .inr ⟨_, rfl⟩); (case c8 => exact fun _ => rfl); (case c9 => exact fun s0 H0 C0 cl0 fp0 => pg_name (i := 4) sc__law_cell_in.nd rfl (Or.inl rfl) (Or.inr rfl)); (case c10 => decide)
      refine it_str ?_
      walk_at "tv"
      refine lc_filter (Txt.rstripChars (cutS z (some 1) (some (-1))) " ").cps.toList (fun c => .str ⟨#[c]⟩) (fun c => .str ⟨#[c]⟩) (fun c => !decide (c ∈ letS.cps.toList)) (by rw [← zlen]; omega) (fun c hc O2 ag => ⟨_, rfl, fun s0 H0 C0 cl0 fp0 => ?_, fun _ s0 H0 C0 cl0 fp0 => ?_⟩) ?_
      · refine wt_cmp rfl ?_
        refine e_va (x := "_law_sign") (i := 4) ⟨rfl, by walk_at "vis", by decide, by decide⟩ fun va4 => ?_
        walk_at "tv"
        exact wo_notInSign ⟨_, rfl, rfl, rfl⟩
      · refine e_va (x := "_law_sign") (i := 4) ⟨rfl, by walk_at "vis", by decide, by decide⟩ fun va4 => ?_
        walk_at "tv"
        exact ⟨rfl, rfl⟩
      walk_at "tv"
      refine we_lst ?_
      walk_at "tv"
      have qz := quot_of q1 q2 q3
      have dz := dec_no (first_is.mp q1)
      have ml := mid_len q3
      have tx : txtB (cutS z (some 1) (some (-1))) = (decide (z.length < 13) && (Txt.rstripChars (cutS z (some 1) (some (-1))) " ").cps.toList.all fun c => decide (c ∈ letS.cps.toList)) := by
        unfold txtB
        rw [ml]
        congr 1
        exact decide_eq_decide.mpr (by
            omega)
      refine wo_eqSigns (Room.units hr) (fun c hc => sign_ok ho (hio c (List.mem_filter.mp hc).1)) ⟨_, rfl, iteBo (fun hb => ?_) fun hb => ?_⟩
      · rw [odd_nil] at hb
        walk_at "tv"
        · rw [if_pos (by rw [qz, tx, hb, decide_eq_true (by omega)]; rfl)] at hk
          refine we_lst ?_
          walk_at "tv"
          exact Ret.of hk
        · rw [if_neg (by rw [qz, tx, decide_eq_false (by omega), Bool.false_and]; exact Bool.false_ne_true), dz, if_neg Bool.false_ne_true] at hk
          refine we_lst ?_
          walk_at "tv"
          exact Ret.of hk
      · rw [odd_nil] at hb
        rw [if_neg (by rw [qz, tx, hb, Bool.and_false]; exact Bool.false_ne_true), dz, if_neg Bool.false_ne_true] at hk
        walk_at "tv"
        refine we_lst ?_
        walk_at "tv"
        exact Ret.of hk
    all_goals exact ⟨rfl, rfl, quot_no fun h => by first | exact absurd h.1 ‹_› | exact absurd h.2.1 ‹_› | (have := h.2.2; omega)⟩
  rintro Γ' O2 ⟨rfl, rfl, hq⟩
  rw [if_neg (by rw [hq]; exact Bool.false_ne_true)] at hk
  have hdl : (digL z).length ≤ z.length := by
    unfold digL
    rw [zlen]
    split
    · rw [List.length_tail]
      omega
    · exact Nat.le_refl _
  have hds : ∀ c ∈ digL z, c ∈ z.cps.toList := fun c hc => by
    unfold digL at hc
    split at hc
    · exact List.mem_of_mem_tail hc
    · exact hc
  generalize hdg : (⟨(digL z).toArray⟩ : Str) = dg
  have dgl : dg.cps.toList = digL z := by rw [← hdg]
  have dlen : dg.length = (digL z).length := by rw [zlen, dgl]
  have dz2 : dg.length ≤ sizeLine := by rw [sizeLine_eq]; omega
  refine ws_consK (P := fun Γ' O3 => Γ' = (gst n__law_cell_in.length [.str z]).set 3 (some (.str dg)) ∧ O3 = O2) ?_ ?_
  · walk_at "tv"
    · rename_i h1
      have hh : z.cps.toList.head? = some 45 := first_is.mp h1
      have e : cutS z (some 1) none = dg := by
        refine str_ext ?_
        rw [dgl]
        unfold digL
        rw [if_pos hh, cut_tl, HT.sIx_none]
        have e1 : HT.sIx z.length 0 (some 1) = min 1 z.length := by
          show HT.sIx _ _ (some ((1 : Nat) : Int)) = _
          rw [HT.sIx_nat]
        rw [e1, zlen]
        cases z.cps.toList with
        | nil => rfl
        | cons a l => simp
      rw [e]
      exact ⟨rfl, rfl⟩
    · rename_i h1
      have e : z = dg := by
        refine str_ext ?_
        rw [dgl]
        unfold digL
        rw [if_neg (fun q : z.cps.toList.head? = some 45 => h1 (first_is.mpr q))]
      exact ⟨by rw [← e], rfl⟩
  rintro Γ' O3 ⟨rfl, rfl⟩
  have dno : ¬ (0 < (digL z).length ∧ (digL z).length < 8 ∧ ((digL z).all fun c => decide (c ∈ digS.cps.toList)) = true) → k (.lst []) O3 := fun h => by
    have n : ¬ decB z = true := fun q => h (by
      unfold decB at q
      simp only [Bool.and_eq_true,
          decide_eq_true_eq] at q
      exact ⟨by omega, by omega, q.2.2.1⟩)
    rw [if_neg n] at hk
    exact hk
  refine ws_consK (P := fun Γ' O4 => Γ' = (gst n__law_cell_in.length [.str z]).set 3 (some (.str dg)) ∧ O4 = O3 ∧ 0 < (digL z).length ∧ (digL z).length < 8 ∧ ((digL z).all fun c => decide (c ∈ digS.cps.toList)) = true) ?_ ?_
  · walk_at "tv"
    · refine we_lc [("_law_sign", 4)] (.nm 4) rfl sc__law_cell_in.nd rfl (.inr ⟨_, rfl⟩) (fun _ => rfl) (fun s0 H0 C0 cl0 fp0 => pg_name (i := 4) sc__law_cell_in.nd rfl (Or.inl rfl) (Or.inr rfl)) (by decide) ?_
      refine it_str ?_
      walk_at "tv"
      refine lc_filter dg.cps.toList (fun c => .str ⟨#[c]⟩) (fun c => .str ⟨#[c]⟩) (fun c => !decide (c ∈ digS.cps.toList)) (by rw [← zlen]; omega) (fun c hc O2 ag => ⟨_, rfl, fun s0 H0 C0 cl0 fp0 => ?_, fun _ s0 H0 C0 cl0 fp0 => ?_⟩) ?_
      · refine wt_cmp rfl ?_
        refine e_va (x := "_law_sign") (i := 4) ⟨rfl, by walk_at "vis", by decide, by decide⟩ fun va4 => ?_
        walk_at "tv"
        exact wo_notInSign ⟨_, rfl, rfl, rfl⟩
      · refine e_va (x := "_law_sign") (i := 4) ⟨rfl, by walk_at "vis", by decide, by decide⟩ fun va4 => ?_
        walk_at "tv"
        exact ⟨rfl, rfl⟩
      walk_at "tv"
      refine we_lst ?_
      walk_at "tv"
      refine wo_neSigns (Room.units hr) (fun c hc => sign_ok ho (hds c (by rw [← dgl]; exact (List.mem_filter.mp hc).1))) ⟨_, rfl, iteBo (fun hb => ?_) fun hb => ?_⟩
      · rw [odd_nil, dgl] at hb
        walk_at "tv"
        refine we_lst ?_
        walk_at "tv"
        refine Ret.of (dno fun h => ?_)
        rw [h.2.2] at hb
        cases hb
      · rw [odd_nil, dgl] at hb
        refine ws_nil ⟨rfl, rfl, by omega, by omega, ?_⟩
        cases q : (digL z).all fun c => decide (c ∈ digS.cps.toList) with
        | true => rfl
        | false => rw [q] at hb; cases hb
    all_goals
      refine we_lst ?_
      walk_at "tv"
      exact Ret.of (dno fun h => by omega)
  rintro Γ' O4 ⟨rfl, rfl, l1, l2, ha⟩
  have hdig := dig_ok ha
  obtain ⟨c0, r0, hc0⟩ : ∃ c r, digL z = c :: r := by
    cases h : digL z with
    | nil => rw [h] at l1; simp at l1
    | cons c r => exact ⟨c, r, rfl⟩
  have dB : decB z = (decide (¬ (c0 = 48 ∧ z ≠ "0")) && decide (PySem.NumText.digitsVal (digL z) ≤ 1000000)) := by
    have tx := dec_text l1 hdig
    rw [hc0] at tx
    have e1 : ((c0 :: r0).head? = some 48) ↔ c0 = 48 := by simp
    rw [e1] at tx
    have e2 : numB (decN z) = decide (PySem.NumText.digitsVal (digL z) ≤ 1000000) := by
      unfold numB decN
      split
      · rw [← Bool.decide_and]
        exact decide_eq_decide.mpr (by
            omega)
      · rw [← Bool.decide_and]
        exact decide_eq_decide.mpr (by
            omega)
    unfold decB
    rw [ha, e2, decide_eq_true (show 1 ≤ (digL z).length by omega), decide_eq_true (show (digL z).length ≤ 7 by omega), Bool.true_and, Bool.true_and, Bool.true_and, Bool.and_comm]
    congr 1
    exact decide_eq_decide.mpr tx
  have it : PySem.intText? dg = some ((PySem.NumText.digitsVal (digL z) : Nat) : Int) := by
    have h := intText_digits (x := dg) (by rw [dgl]; exact hdig) (by rw [dgl, hc0]; exact List.cons_ne_nil _ _) (by omega)
    rw [dgl] at h
    exact h
  refine ws_consK (P := fun Γ' O5 => Γ' = (gst n__law_cell_in.length [.str z]).set 3 (some (.str dg)) ∧ O5 = O4 ∧ decB z = true) ?_ ?_
  · walk_at "tv"
    refine wi_str dz2 (c := c0) (atI_nat (j := 0) (by rw [dgl, hc0]; rfl)) ?_
    have p6 : (10 : Int) ^ Int.toNat 6 = 1000000 := by decide +kernel
    have one : ((⟨#[c0]⟩ : Str) = "0") ↔ c0 = 48 := by
      constructor
      · intro h
        have e : (⟨#[c0]⟩ : Str).cps.toList = ("0" : Str).cps.toList := by rw [h]
        have e2 : [c0] = [48] := e
        cases e2
        rfl
      · rintro rfl
        rfl
    have no : ∀ q : decB z = false, k (.lst []) O4 := fun q => by
      rw [if_neg (by rw [q]; exact Bool.false_ne_true)] at hk
      exact hk
    walk_at "tv"
    · refine wc_intS it (by omega) ?_
      walk_at "tv"
      · refine we_lst ?_
        walk_at "tv"
        exact Ret.of (no (by rw [dB, decide_eq_false (show ¬ PySem.NumText.digitsVal (digL z) ≤ 1000000 by omega), Bool.and_false]))
      · show _ ∧ _ ∧ _
        refine ⟨rfl, rfl, ?_⟩
        rw [dB, decide_eq_true (show PySem.NumText.digitsVal (digL z) ≤ 1000000 by omega), decide_eq_true (show ¬ (c0 = 48 ∧ z ≠ "0") from fun h => h.2 ‹_›)]
        rfl
    · refine we_lst ?_
      walk_at "tv"
      exact Ret.of (no (by rw [dB, decide_eq_false (show ¬ ¬ (c0 = 48 ∧ z ≠ "0") from fun h => h ⟨one.mp ‹_›, ‹_›⟩), Bool.false_and]))
    · refine wc_intS it (by omega) ?_
      walk_at "tv"
      · refine we_lst ?_
        walk_at "tv"
        exact Ret.of (no (by rw [dB, decide_eq_false (show ¬ PySem.NumText.digitsVal (digL z) ≤ 1000000 by omega), Bool.and_false]))
      · show _ ∧ _ ∧ _
        refine ⟨rfl, rfl, ?_⟩
        rename_i h1 _
        rw [dB, decide_eq_true (show PySem.NumText.digitsVal (digL z) ≤ 1000000 by omega), decide_eq_true (show ¬ (c0 = 48 ∧ z ≠ "0") from fun h => h1 (one.mpr h.1))]
        rfl
  rintro Γ' O5 ⟨rfl, rfl, hB⟩
  rw [if_pos hB] at hk
  walk_at "tv"
  refine we_lst ?_
  walk_at "tv"
  refine wc_intS it (by omega) ?_
  walk_at "tv"
  refine we_lst ?_
  walk_at "tv"
  obtain ⟨c1, r1, hc1⟩ : ∃ c r, z.cps.toList = c :: r := by
    cases h : z.cps.toList with
    | nil =>
      exfalso
      rw [zlen, h, List.length_nil] at hdl
      omega
    | cons c r => exact ⟨c, r, rfl⟩
  refine wi_str hz2 (c := c1) (atI_nat (j := 0) (by rw [hc1]; rfl)) ?_
  walk_at "tv"
  · rename_i hm
    have e : (⟨#[c1]⟩ : Str).cps.toList = ("-" : Str).cps.toList := by rw [of_decide_eq_true hm]
    have e2 : [c1] = [45] := e
    have e3 : ((PySem.NumText.digitsVal (digL z) : Nat) : Int) * (0 - 1) = decN z := by
      unfold decN
      rw [if_pos (by rw [hc1, List.head?_cons, List.head_eq_of_cons_eq e2])]
      omega
    rw [e3]
    exact Ret.of hk
  · rename_i hm
    have e3 : ((PySem.NumText.digitsVal (digL z) : Nat) : Int) * 1 = decN z := by
      unfold decN
      rw [if_neg fun q => ?_]
      · omega
      · rw [hc1] at q
        have q2 : c1 = 45 := Option.some.inj q
        rw [q2] at hm
        revert hm
        decide +kernel
    rw [e3]
    exact Ret.of hk
end
/-! ### what the law hears of a text -/
abbrev s__law_read : Stmt := top 56
abbrev n__law_read : List Str := ["_law_text", "_law_found", "_law_made", "e"]
abbrev p__law_read : List Str := ["_law_text"]
theorem sc__law_read : FnScope n__law_read p__law_read (defScope s__law_read) := ⟨rfl, rfl, rfl, by decide +kernel, rfl, by decide +kernel, by decide +kernel⟩
/-- what K says of the exception classes -/
structure XC (K : PySem.W.Frag) (CI PE IT : Addr) : Prop where
  xm : PySem.W.exmOne K (.ref CI) (.ref CI) = some true
  kP : PySem.W.kitOne K (.ref CI) (.ref PE) = some true
  kT : PySem.W.kitOne K (.ref CI) (.ref IT) = some false
  xf : XfC K CI
  no : PySem.W.findIn K (.ref CI) "at" = some none
  xc : ExcC K CI
theorem we_with {X : Cx} {Γ : Sg} {O : Ow} {e : Expr} {k : KD} {p : Prop} (hv : p) (h : p → WE X e Γ O k) : WE X e Γ O k := h hv
/-- what is heard: a table's columns and rows, or the number of a line -/
def tabRes : Nat ⊕ (List Col × List (List D)) → D
  | .inl i => .int (i : Nat)
  | .inr (cs, rs) => .lst [.lst (cs.map colD), .lst (rs.map .tup)]
section
variable {C CT CI PE : Addr}
def sLawRead : SpD := fun ds O k _ => ∃ z : Str, ds = [.str z] ∧ z.length ≤ 1000 ∧ (Txt.split z "\n").length ≤ 101 ∧ (∀ l0 ls, Txt.split z "\n" = l0 :: ls → (Txt.split l0 ", ").length ≤ 10) ∧ k (tabRes (tabIn z)) O
theorem pm_lawRead (Dd : Df K mg "_law_read" s__law_read p__law_read) (c : TC K C) (h_read : Pcm P w K mg base C "read" 7 (sTReadX C CT)) (xc : XC K CT PE CI) (gC : GlD K mg "Table" (.own C)) (m_it : mg "InvalidText" = some (.ref CT)) (g_pe : GlD K mg "PartError" (.own PE)) (g_iw : GlD K mg "InvalidTable" (.own CI)) (b_isi : mg "isinstance" = none) (b_list : mg "list" = none) :
    Pm P w K mg base "_law_read" 8 sLawRead := by
  refine Pm.of Dd sc__law_read (fun ds O k kx h => by obtain ⟨_, h, _⟩ := h; rw [h]; rfl) (fun f cdv A outer s H E hg hr ds O k kx hS => ?_)
  obtain ⟨z, rfl, hz, hn, hc, hk⟩ := hS
  obtain ⟨cl, a1, a2⟩ := c
  refine with_va (x := "_law_text") (i := 0) ⟨rfl, by walk_at "vis", by decide, by decide⟩ fun va0 => ?_
  refine with_va (x := "_law_found") (i := 1) ⟨rfl, by walk_at "vis", by decide, by decide⟩ fun va1 => ?_
  refine with_va (x := "_law_made") (i := 2) ⟨rfl, by walk_at "vis", by decide, by decide⟩ fun va2 => ?_
  refine with_va (x := "e") (i := 3) ⟨rfl, by walk_at "vis", by decide, by decide⟩ fun va3 => ?_
  refine with_vs (x := "_law_found") (i := 1) ⟨sc__law_read.nd, rfl, by walk_at "loc", .inl rfl⟩ fun vs1 => ?_
  refine with_vs (x := "_law_made") (i := 2) ⟨sc__law_read.nd, rfl, by walk_at "loc", .inl rfl⟩ fun vs2 => ?_
  refine with_vs (x := "e") (i := 3) ⟨sc__law_read.nd, rfl, by walk_at "loc", .inl rfl⟩ fun vs3 => ?_
  walk_at "body"
  walk_at "ev"
  refine ws_tryAs (c := .ref CT) (i := 3) (fun Ce fds Γ' O' => Ce = CT ∧ Γ' = [some (.str z), some .non, none, none] ∧ O' = O ∧ ∃ i, fds = ([("at", D.int (i : Nat))] : List (Str × D)) ∧ tabIn z = .inl i) rfl rfl sc__law_read.nd rfl rfl ⟨rfl, by decide, .inl m_it⟩ (fun L0 pn xe po tx => ?_) (fun Ce fds Γ' O' hk2 => ?_)
  · have kc := h_read.km (X := (Bo P w K mg base n__law_read "_law_read" s__law_read f cdv A outer s H E).tr pn xe) rfl rfl rfl rfl rfl
    refine xs_cons ?_
    (with_reducible refine' xs_set (i := 2) ?x ?y ?_); (case x => exact ⟨sc__law_read.nd, rfl, by walk_at "loc", .inl rfl⟩); (case y => rfl)
    (with_reducible refine' we_cmX kc tx ?g1 ?g2 ?g3 ?g4 ?g5 ?_); (case g1 => exact hg); (case g2 => exact Room.mono hr (by decide)); (case g3 => rfl); (case g4 => rfl); (case g5 => rfl)
    refine we_with (gC.gd (X := (Bo P w K mg base n__law_read "_law_read" s__law_read f cdv A outer s H E).tr pn xe) rfl rfl rfl (by decide)) fun gd_c => ?_
    (with_reducible refine' we_gd ?g ?_); (case g => assumption)
    refine ⟨rfl, ?_⟩
    (with_reducible refine' wa_cons ?h ?_); (case h => rfl)
    (with_reducible refine' we_var (i := 0) (d := .str z) ?v ?g ?_); (case v => exact ⟨rfl, by walk_at "vis", by decide, by decide⟩); (case g => rfl)
    (with_reducible refine' wa_nil ?_)
    refine ⟨z, rfl, hz, hn, hc, fun i hi => ⟨O, DL.Sub.refl O, rfl, rfl, rfl, i, rfl, hi⟩, fun cs rs ht ok => ?_⟩
    rw [ht] at hk
    show WSsx _ _ _ _ _ _
    refine xs_one (ws_x ?_)
    refine ws_set (i := 1) ⟨sc__law_read.nd, rfl, by walk_at "loc", .inl rfl⟩ rfl ?_
    refine we_with (⟨rfl, b_list, by decide +kernel, by decide, by decide⟩ : Bt ((Bo P w K mg base n__law_read "_law_read" s__law_read f cdv A outer s H E).tr pn xe) "list" "list") fun bt_list => ?_
    refine we_with (⟨rfl, by walk_at "vis", by decide, by decide⟩ : Va ((Bo P w K mg base n__law_read "_law_read" s__law_read f cdv A outer s H E).tr pn xe) "_law_made" 2) fun va2 => ?_
    refine we_lst ?_
    repeat' (first
      | (with_reducible refine' wc_listT ?_)
      | walk_at "s1")
    exact Ret.of hk
  · obtain ⟨rfl, rfl, rfl, i, rfl, hi⟩ := hk2
    rw [hi] at hk
    refine ⟨xc.xm, fun a dd oe pn hz hvs => ?_⟩
    refine with_va (x := "e") (i := 3) ⟨rfl, by walk_at "vis", by decide, by decide⟩ fun va7 => ?_
    refine with_vs (x := "_law_found") (i := 1) ⟨sc__law_read.nd, rfl, by walk_at "loc", .inl rfl⟩ fun vs7 => ?_
    refine with_bn (x := "isinstance") (id := "isinstance") ⟨rfl, b_isi, by decide +kernel, by decide, by decide⟩ fun bn_isi => ?_
    refine with_p (g_pe.gd (X := (Bo P w K mg base n__law_read "_law_read" s__law_read f cdv A outer s H E).suite a ((a, oe) :: pn)) rfl rfl rfl (by decide)) fun gd_pe => ?_
    refine with_p (g_iw.gd (X := (Bo P w K mg base n__law_read "_law_read" s__law_read f cdv A outer s H E).suite a ((a, oe) :: pn)) rfl rfl rfl (by decide)) fun gd_iw => ?_
    repeat' (first
      | ((with_reducible refine' we_gd ?g ?_); (case g => assumption))
      | ((with_reducible refine' wc_isiX ?t ?z ?v ?k ?_); (case t => exact xc.xc); (case z => exact hz); (case v => exact hvs); (case k => first | exact xc.kP | exact xc.kT))
      | (refine we_xf (dd := dd) (fds := [("at", D.int (i : Nat))]) (y := .int (i : Nat)) xc.xf xc.no hz hvs rfl rfl ?_)
      | walk_at "s1")
    refine ⟨rfl, ?_⟩
    unfold DE.gone
    walk_at "ev"
    exact Ret.of hk
end
/-! ### the cell of a word, by the law and by the program -/
def isS : D → Bool
  | .str _ => true
  | _ => false
def isN : D → Bool
  | .non => true
  | _ => false
/-- what the law takes of a word's cell in a column of the sort s -/
def fitL (s : Str) : List D → Option D
  | [d] => if (isN d || (isS d == decide (s = "text"))) = true then some d else none
  | _ => none
theorem quot_head {z : Str} (h : quotB z = true) : z.cps.toList.head? = some 34 := by
  unfold quotB at h
  simp only
      [Bool.and_eq_true] at h
  exact of_decide_eq_true ((starts1 z 34).symm.trans h.2.1)
theorem cell_rel {s z : Str} (hs : s = "text" ∨ s = "number") : cellR s z = fitL s (cellL z) := by
  unfold cellR cellL
  by_cases h0 : z = "-"
  · rw [if_pos h0, if_pos h0]
    rfl
  rw [if_neg h0, if_neg h0]
  by_cases h1 : quotB z = true
  · have dz := dec_no (quot_head h1)
    rw [if_pos h1]
    rcases hs with rfl | rfl
    · rw [if_pos ⟨rfl, h1⟩]
      rfl
    · have n1 : ¬ (("number" : Str) = "text" ∧ quotB z = true) := fun h => absurd h.1 (by decide +kernel)
      have n2 : ¬ (("number" : Str) = "number" ∧ decB z = true) := fun h => by rw [dz] at h; cases h.2
      rw [if_neg n1, if_neg n2]
      unfold fitL
      rw [decide_eq_false (show ¬ ("number" : Str) = "text" by decide +kernel)]
      rfl
  · have n1 : ¬ (s = "text" ∧ quotB z = true) := fun h => h1 h.2
    rw [if_neg n1, if_neg h1]
    by_cases h2 : decB z = true
    · rw [if_pos h2]
      rcases hs with rfl | rfl
      · have n2 : ¬ (("text" : Str) = "number" ∧ decB z = true) := fun h => absurd h.1 (by decide +kernel)
        rw [if_neg n2]
        unfold fitL
        rw [decide_eq_true rfl]
        rfl
      · rw [if_pos ⟨rfl, h2⟩]
        unfold fitL
        rw [decide_eq_false (show ¬ ("number" : Str) = "text" by decide +kernel)]
        rfl
    · have n2 : ¬ (s = "number" ∧ decB z = true) := fun h => h2 h.2
      rw [if_neg n2, if_neg h2]
      rfl
theorem cellL_cases (z : Str) : cellL z = [] ∨ ∃ d, cellL z = [d] ∧ (isN d = true ∧ d = .non ∨ isN d = false ∧ (isS d = true ∧ (∃ y, d = .str y) ∨ isS d = false ∧ ∃ n, d = .int n)) := by
  unfold cellL
  split
  · exact .inr ⟨_, rfl, .inl ⟨rfl, rfl⟩⟩
  · split
    · exact .inr ⟨_, rfl, .inr ⟨rfl, .inl ⟨rfl, _, rfl⟩⟩⟩
    · split
      · exact .inr ⟨_, rfl, .inr ⟨rfl, .inr ⟨rfl, _, rfl⟩⟩⟩
      · exact .inl rfl
/-- the row of a line, by the cells of its words -/
theorem row_rel {cs : List Col} {z : Str} (hs : ∀ c ∈ cs, c.2 = "text" ∨ c.2 = "number") : rowIn cs z = if (Txt.split z ", ").length = cs.length ∧ ∀ p ∈ (Txt.split z ", ").zip cs, fitL p.2.2 (cellL p.1) ≠ none then some (((Txt.split z ", ").zip cs).map fun p => (fitL p.2.2 (cellL p.1)).getD .non) else none := by
  have e : ∀ p ∈ (Txt.split z ", ").zip cs, cellR p.2.2 p.1 = fitL p.2.2 (cellL p.1) := fun p hp => cell_rel (hs _ (List.of_mem_zip hp).2)
  unfold rowIn
  by_cases h : (Txt.split z ", ").length = cs.length ∧ ∀ p ∈ (Txt.split z ", ").zip cs, cellR p.2.2 p.1 ≠ none
  · rw [if_pos h, if_pos ⟨h.1, fun p hp => by rw [← e p hp]; exact h.2 p hp⟩]
    congr 1
    exact List.map_congr_left fun p hp => by rw [e p hp]
  · rw [if_neg h, if_neg fun q => h ⟨q.1, fun p hp => by rw [e p hp]; exact q.2 p hp⟩]
/-! ### the table that a text tells, by the law -/
abbrev s__law_table_in : Stmt := top 54
abbrev n__law_table_in : List Str := ["_law_text", "_law_lines", "_law_columns_here", "_law_part", "_law_words", "_law_rows_here", "_law_at", "_law_line", "_law_parts", "_law_row_here", "_law_cell_here", "_law_column", "_law_name", "_law_sort", "_law_word_here"]
abbrev p__law_table_in : List Str := ["_law_text"]
theorem sc__law_table_in : FnScope n__law_table_in p__law_table_in (defScope s__law_table_in) := ⟨rfl, rfl, rfl, by decide +kernel, rfl, by decide +kernel, by decide +kernel⟩
local macro_rules | `(tactic| walk_at "t1") => `(tactic| first
  | ((with_reducible refine' we_bm (T := "str") (id := "str.split") PySem.F.plainAttrs_str PySem.F.slot_str_split ?a ?b ?c ?d ?e ?f ?_); (case a => rfl); (case b => rfl); (case c => rfl); (case d => rfl); (case e => rfl); (case f => rfl))
  | ((with_reducible refine' wc_lenL ?h ?_); (case h => exact sq_lst))
  | walk_at "s1")
local macro_rules | `(tactic| walk_at "tv") => `(tactic| repeat' (walk_at "t1"))
theorem join_sub {s x : Str} {c : Nat} (hc : c ∈ x.cps.toList) : ∀ {ws : List Str}, x ∈ ws → c ∈ (Str.join s ws).cps.toList
  | [], h => by cases h
  | [a], h => by
    rw [List.mem_singleton.mp h] at hc
    exact hc
  | a :: b :: r, h => by
    have e : Str.join s (a :: b :: r) = a ++ s ++ Str.join s (b :: r) := rfl
    rw [e, add_tl, add_tl]
    rcases List.mem_cons.mp
        h with rfl | h
    · exact List.mem_append.mpr (.inl (List.mem_append.mpr (.inl hc)))
    · exact List.mem_append.mpr (.inr (join_sub hc h))
theorem ok_split {s : Str} {z x : Str} (ho : PyData.strOk z = true) (h : x ∈ Txt.split z s) : PyData.strOk x = true := by
  have key : ∀ c ∈ x.cps.toList, c ∈ z.cps.toList := fun c hc => by
    have e := join_sub (s := s) hc h
    rw [StrLaws.join_split] at e
    exact e
  unfold PyData.strOk at ho ⊢
  rw [Array.all_eq_true'] at ho ⊢
  exact fun c hc => ho c (Array.mem_toList_iff.mp (key c (Array.mem_toList_iff.mpr hc)))
theorem fz_same {O : Ow} : ∀ ds : List D, FzLs O ds ds
  | [] => .nil
  | d :: ds => .cons (.same d) (fz_same ds)
theorem tyq_own {O : Ow} {p : Addr} {ds : List D} {q : Prop} (ho : O p = some (.lst ds)) (h : q) : TyM O (.own p) "list" ∧ q := ⟨.inl ⟨rfl, ds, sq_own ho⟩, h⟩
theorem inV_names (cs : List Col) (z : Str) : inV (D.str z).v ((cs.map fun c => D.str c.1).map D.v) = cs.any fun c => decide (c.1 = z) := by
  unfold inV
  rw [List.map_map, List.any_map]
  congr 1
section
variable {X : Cx} {Γ Γ' : Sg} {O : Ow}
theorem wt_view {e : Expr} {kt : Bool → Ow → Prop} (hΓ : FzG O Γ Γ') (ho : ∀ a od, O a = some od → od.lt) (h : WT X e Γ' (fun _ => none) fun c _ => kt c O) : WT X e Γ O kt := fun σ L H hs hr Q q =>
  h σ (L.all H) H (hΓ.sl hr hs) hr.all Q fun c O' L' H' hk le r => q c O _ H' hk (cut_le hr le) (hr.cut le r)
end
/-- columns that stand, so far -/
def goodC (ws : List (List Str)) : Bool := ws.all colB && decide (namesOf ws).Nodup
theorem colsB_good {ws : List (List Str)} (h : ws ≠ []) : colsB ws = goodC ws := by
  unfold colsB goodC
  rw [decide_eq_true h, Bool.true_and]
theorem good_app {a b : List (List Str)} (h : goodC (a ++ b) = true) : goodC a = true := by
  unfold goodC namesOf at *
  simp only [Bool.and_eq_true, List.all_append, decide_eq_true_eq, List.map_append] at *
  exact ⟨h.1.1, (List.nodup_append.mp h.2).1⟩
theorem good_snoc {a : List (List Str)} {w : List Str} (h : goodC a = true) : goodC (a ++ [w]) = (colB w && !decide (w.headD "" ∈ namesOf a)) := by
  unfold goodC namesOf at *
  simp only [Bool.and_eq_true,
      decide_eq_true_eq] at h
  rw [List.all_append, h.1, Bool.true_and, List.all_cons, List.all_nil, Bool.and_true, List.map_append]
  congr 1
  rw [← decide_not]
  refine decide_eq_decide.mpr ?_
  rw [List.nodup_append]
  constructor
  · rintro ⟨_, _, q⟩ hm
    exact q _ hm _ List.mem_cons_self rfl
  · intro q
    refine ⟨h.2, by simp, fun x hx y hy e => ?_⟩
    simp only [List.map_cons, List.map_nil,
        List.mem_singleton] at hy
    subst hy
    rw [e] at hx
    exact q hx
theorem cell_py {w : Str} (ho : PyData.strOk w = true) : (D.lst (cellL w)).isPy = true ∧ (D.lst (cellL w)).py.canLay0 = true ∧ (D.lst (cellL w)).py.depth ≤ 1 := by
  have key : PyData.strOk (cutS w (some 1) (some (-1))) = true := by
    unfold PyData.strOk at ho ⊢
    rw [Array.all_eq_true'] at ho ⊢
    intro c hc
    have h := Array.mem_toList_iff.mpr hc
    rw [cut_tl] at h
    exact ho c (Array.mem_toList_iff.mp (List.mem_of_mem_drop (List.mem_of_mem_take h)))
  unfold cellL
  split
  · exact ⟨rfl, rfl, Nat.le_refl _⟩
  · split
    · refine ⟨rfl, ?_, Nat.le_refl _⟩
      simp only [D.py, D.pys, PyData.canLay0, PyData.canLayAll0, key]
      rfl
    · split
      · exact ⟨rfl, rfl, Nat.le_refl _⟩
      · exact ⟨rfl, rfl, by decide⟩
theorem parts_py : ∀ {ws : List Str}, (∀ w ∈ ws, PyData.strOk w = true) → D.arePy (ws.map fun w => .lst (cellL w)) = true ∧ PyData.canLayAll0 (D.pys (ws.map fun w => .lst (cellL w))) = true ∧ PyData.depthAll (D.pys (ws.map fun w => .lst (cellL w))) ≤ 1
  | [], _ => ⟨rfl, rfl, Nat.zero_le _⟩
  | w :: ws, h => by
    obtain ⟨a1, a2, a3⟩ := parts_py fun x hx => h x (List.mem_cons_of_mem _ hx)
    obtain ⟨b1, b2, b3⟩ := cell_py (h w List.mem_cons_self)
    rw [List.map_cons, D.arePy, D.pys, PyData.canLayAll0, PyData.depthAll, a1, a2, b1, b2]
    exact ⟨rfl, rfl, by omega⟩
theorem parts_nil {ws : List Str} : ((D.pys (ws.map fun w => .lst (cellL w))).any fun z => PyData.eqv z (D.lst []).py) = ws.any fun w => decide (cellL w = []) := by
  induction ws with
  | nil => rfl
  | cons w ws ih =>
    rw [List.map_cons, D.pys, List.any_cons, List.any_cons, ih]
    congr 1
    rcases cellL_cases w with e | ⟨d, e, _⟩
    · rw [e]; rfl
    · rw [e, decide_eq_false (List.cons_ne_nil _ _)]
      simp [D.py, D.pys, PyData.eqv, PyData.eqvAll]
theorem sorts_in {cs : List Col} (co : COk cs) {c : Col} (hc : c ∈ cs) : c.2 = "text" ∨ c.2 = "number" := by
  have h1 := co.ok
  unfold colsB at h1
  simp only [Bool.and_eq_true, List.all_eq_true] at h1
  have h2 := h1.2.1 (w2 c) (List.mem_map.mpr ⟨c, hc, rfl⟩)
  have h3 : (nameB c.1 && sortB c.2) = true := colB_two.symm.trans h2
  rw [Bool.and_eq_true] at h3
  have h := h3.2
  unfold sortB inV at h
  simp only [List.any_cons, List.any_nil, Bool.or_false, Bool.or_eq_true] at h
  rcases h with q | q
  · exact .inl (Eq.symm (by simpa [eqV] using q))
  · exact .inr (Eq.symm (by simpa [eqV] using q))
theorem fit_st {y : Str} : fitL "text" [.str y] ≠ none := by
  unfold fitL
  rw [decide_eq_true rfl]
  exact Option.some_ne_none _
theorem fit_it {n : Int} : fitL "text" [.int n] = none := by
  unfold fitL
  rw [decide_eq_true rfl]
  rfl
theorem fit_sn {y : Str} : fitL "number" [.str y] = none := by
  unfold fitL
  rw [decide_eq_false (show ¬ ("number" : Str) = "text" by decide +kernel)]
  rfl
theorem fit_in {n : Int} : fitL "number" [.int n] ≠ none := by
  unfold fitL
  rw [decide_eq_false (show ¬ ("number" : Str) = "text" by decide +kernel)]
  exact Option.some_ne_none _
theorem fit_head {s w : Str} (h : fitL s (cellL w) ≠ none) : (fitL s (cellL w)).getD .non = (cellL w).headD .non := by
  rcases cellL_cases w with e | ⟨d, e, _⟩
  · rw [e] at h
    exact absurd rfl h
  · rw [e] at h ⊢
    have h : (if (isN d || (isS d == decide (s = "text"))) = true then some d else none) ≠ none := h
    show (if (isN d || (isS d == decide (s = "text"))) = true then some d else none).getD .non = d
    by_cases q : (isN d || (isS d == decide (s = "text"))) = true
    · rw [if_pos q]
      rfl
    · exact absurd (if_neg q) h
def rowsAt (cs : List Col) (ls : List Str) : Nat → List D
  | 0 => []
  | i + 1 => .tup [] :: (ls.take i).map fun l => .tup ((rowIn cs l).getD [])
def sTableIn : SpD := fun ds O k _ => ∃ z : Str, ds = [.str z] ∧ (∀ a od, O a = some od → od.lt) ∧ z.length ≤ 1000 ∧ PyData.strOk z = true ∧ (Txt.split z "\n").length ≤ 101 ∧ (∀ l0 ls, Txt.split z "\n" = l0 :: ls → (Txt.split l0 ", ").length ≤ 10) ∧ k (tabRes (tabIn z)) O
section
theorem pm_tableIn (Dd : Df K mg "_law_table_in" s__law_table_in p__law_table_in) (h_name : Pm P w K mg base "_law_name_in" 1 sNameIn) (h_cell : Pm P w K mg base "_law_cell_in" 2 sCellIn) (b_len : mg "len" = none) (b_enum : mg "enumerate" = none) (b_zip : mg "zip" = none) (b_tuple : mg "tuple" = none) (b_isi : mg "isinstance" = none) (b_str : mg "str" = none) :
    Pm P w K mg base "_law_table_in" 3 sTableIn := by
  refine Pm.of Dd sc__law_table_in (fun ds O k kx h => by obtain ⟨_, h, _⟩ := h; rw [h]; rfl) (fun f cdv A outer s H E hg hr ds O k kx hS => ?_)
  obtain ⟨z, rfl, hlt, hz, ho, hn, hc, hk⟩ := hS
  refine with_va (x := "_law_text") (i := 0) ⟨rfl, by walk_at "vis", by decide, by decide⟩ fun va0 => ?_
  refine with_va (x := "_law_lines") (i := 1) ⟨rfl, by walk_at "vis", by decide, by decide⟩ fun va1 => ?_
  refine with_va (x := "_law_columns_here") (i := 2) ⟨rfl, by walk_at "vis", by decide, by decide⟩ fun va2 => ?_
  refine with_va (x := "_law_part") (i := 3) ⟨rfl, by walk_at "vis", by decide, by decide⟩ fun va3 => ?_
  refine with_va (x := "_law_words") (i := 4) ⟨rfl, by walk_at "vis", by decide, by decide⟩ fun va4 => ?_
  refine with_va (x := "_law_rows_here") (i := 5) ⟨rfl, by walk_at "vis", by decide, by decide⟩ fun va5 => ?_
  refine with_va (x := "_law_at") (i := 6) ⟨rfl, by walk_at "vis", by decide, by decide⟩ fun va6 => ?_
  refine with_va (x := "_law_line") (i := 7) ⟨rfl, by walk_at "vis", by decide, by decide⟩ fun va7 => ?_
  refine with_va (x := "_law_parts") (i := 8) ⟨rfl, by walk_at "vis", by decide, by decide⟩ fun va8 => ?_
  refine with_va (x := "_law_row_here") (i := 9) ⟨rfl, by walk_at "vis", by decide, by decide⟩ fun va9 => ?_
  refine with_va (x := "_law_cell_here") (i := 10) ⟨rfl, by walk_at "vis", by decide, by decide⟩ fun va10 => ?_
  refine with_va (x := "_law_column") (i := 11) ⟨rfl, by walk_at "vis", by decide, by decide⟩ fun va11 => ?_
  refine with_vs (x := "_law_lines") (i := 1) ⟨sc__law_table_in.nd, rfl, by walk_at "loc", .inl rfl⟩ fun vs1 => ?_
  refine with_vs (x := "_law_columns_here") (i := 2) ⟨sc__law_table_in.nd, rfl, by walk_at "loc", .inl rfl⟩ fun vs2 => ?_
  refine with_vs (x := "_law_part") (i := 3) ⟨sc__law_table_in.nd, rfl, by walk_at "loc", .inl rfl⟩ fun vs3 => ?_
  refine with_vs (x := "_law_words") (i := 4) ⟨sc__law_table_in.nd, rfl, by walk_at "loc", .inl rfl⟩ fun vs4 => ?_
  refine with_vs (x := "_law_rows_here") (i := 5) ⟨sc__law_table_in.nd, rfl, by walk_at "loc", .inl rfl⟩ fun vs5 => ?_
  refine with_vs (x := "_law_at") (i := 6) ⟨sc__law_table_in.nd, rfl, by walk_at "loc", .inl rfl⟩ fun vs6 => ?_
  refine with_vs (x := "_law_line") (i := 7) ⟨sc__law_table_in.nd, rfl, by walk_at "loc", .inl rfl⟩ fun vs7 => ?_
  refine with_vs (x := "_law_parts") (i := 8) ⟨sc__law_table_in.nd, rfl, by walk_at "loc", .inl rfl⟩ fun vs8 => ?_
  refine with_vs (x := "_law_row_here") (i := 9) ⟨sc__law_table_in.nd, rfl, by walk_at "loc", .inl rfl⟩ fun vs9 => ?_
  refine with_vs (x := "_law_cell_here") (i := 10) ⟨sc__law_table_in.nd, rfl, by walk_at "loc", .inl rfl⟩ fun vs10 => ?_
  refine with_vs (x := "_law_column") (i := 11) ⟨sc__law_table_in.nd, rfl, by walk_at "loc", .inl rfl⟩ fun vs11 => ?_
  refine with_bn (x := "len") (id := "len") ⟨rfl, b_len, by decide +kernel, by decide, by decide⟩ fun bn_len => ?_
  refine with_kn (h_name.kn rfl rfl rfl rfl rfl rfl (by decide)) fun kn_name => ?_
  have spn := split_nn (z := z) sp_line
  cases hsp : Txt.split z "\n" with
  | nil => exact absurd hsp spn
  | cons l0 ls =>
    rw [hsp] at hn
    have hc0 := hc l0 ls hsp
    have t0 : colsB (colsIn l0) = false → tabIn z = .inl 0 := fun hb => by
      unfold tabIn
      rw [hsp]
      exact if_pos hb
    have t1 : ∀ i, colsB (colsIn l0) = true → firstBad (cols2 (colsIn l0)) 1 ls = some i → tabIn z = .inl i := fun i hb hi => by
      unfold tabIn
      rw [hsp]
      simp only [hb, hi]
      rfl
    have t2 : colsB (colsIn l0) = true → firstBad (cols2 (colsIn l0)) 1 ls = none → tabIn z = .inr (cols2 (colsIn l0), ls.map fun l => (rowIn (cols2 (colsIn l0)) l).getD []) := fun hb hi => by
      unfold tabIn
      rw [hsp]
      simp only [hb, hi]
      rfl
    have hlen : ∀ l ∈ l0 :: ls, l.length ≤ 1000 := fun l hl => by
      rw [← hsp] at hl
      have := split_mem sp_line hl
      omega
    have hok : ∀ l ∈ l0 :: ls, PyData.strOk l = true := fun l hl => ok_split ho (by rw [hsp]; exact hl)
    have wnn : colsIn l0 ≠ [] := fun e => by
      unfold colsIn at e
      exact split_nn (z := l0) sp_comma (List.map_eq_nil_iff.mp e)
    have no0 : goodC (colsIn l0) = false → k (.int 0) O := fun q => by
      have := t0 (by rw [colsB_good wnn]; exact q)
      rw [this] at hk
      exact hk
    walk_at "body"
    walk_at "tv"
    refine wm_split (by decide +kernel) (split_room (by omega)) ?_
    rw [hsp]
    walk_at "tv"
    (with_reducible refine' we_lstO ?_)
    refine wa_nil ⟨Nat.zero_le _, fun p hp => ?_⟩
    walk_at "tv"
    refine ws_for PassesOwn.never rfl (fun _ => rfl) ?_
    refine it_list ?_
    walk_at "tv"
    refine wi_list sq_lst (atI_nat (j := 0) rfl) ?_
    walk_at "tv"
    refine wm_split (by decide +kernel) (split_room (by have := hlen l0 List.mem_cons_self; omega)) ⟨_, .inl rfl, ?_⟩
    refine ⟨fun i Γ' O' => ∃ v3 v4, Γ' = [some (.str z), some (.lst ((l0 :: ls).map .str)), some (.own p), v3, v4, none, none, none, none, none, none, none, none, none, none] ∧ O' = put O p (.lst ((cols2 ((colsIn l0).take i)).map colD)) ∧ goodC ((colsIn l0).take i) = true, ⟨_, _, rfl, rfl, rfl⟩, ?_, ?_⟩
    · rintro i d Γ' O' hd ⟨v3, v4, rfl, rfl, hgood⟩
      obtain ⟨x, rfl, hx⟩ : ∃ x, d = .str x ∧ (Txt.split l0 ", ")[i]? = some x := by
        rw [List.getElem?_map] at hd
        cases h : (Txt.split l0 ", ")[i]? with
        | none => rw [h] at hd; cases hd
        | some x => rw [h] at hd; exact ⟨x, (Option.some.inj hd).symm, rfl⟩
      have hxm := List.mem_of_getElem? hx
      have hxl : x.length ≤ 1000 := Nat.le_trans (split_mem sp_comma hxm) (hlen l0 List.mem_cons_self)
      have hxo : PyData.strOk x = true := ok_split (hok l0 List.mem_cons_self) hxm
      have hci : (colsIn l0)[i]? = some (Txt.split x " ") := by
        unfold colsIn
        rw [List.getElem?_map, hx]
        rfl
      have htk : (colsIn l0).take (i + 1) = (colsIn l0).take i ++ [Txt.split x " "] := by
        rw [List.take_add_one, hci]
        rfl
      have bad : goodC ((colsIn l0).take (i + 1)) = false → k (.int 0) O := fun q => no0 (by
        cases h : goodC (colsIn l0) with
        | false => rfl
        | true =>
          rw [← List.take_append_drop (i + 1) (colsIn l0)] at h
          rw [good_app h] at q
          cases q)
      rw [htk, good_snoc hgood] at bad
      have hcl : (cols2 ((colsIn l0).take i)).length ≤ 1000 := by
        unfold cols2 colsIn
        rw [List.length_map, List.length_take, List.length_map]
        omega
      have hwl : ∀ y ∈ Txt.split x " ", y.length ≤ 1000 := fun y hy => Nat.le_trans (split_mem sp_blank hy) hxl
      have hwo : ∀ y ∈ Txt.split x " ", PyData.strOk y = true := fun y hy => ok_split hxo hy
      walk_at "tv"
      refine wm_split (by decide +kernel) (split_room (by omega)) ?_
      show WSs _ _ _ _ _
      generalize Txt.split x " " = ws at bad hwl hwo htk ⊢
      refine ws_consK (P := fun Γ' O' => Γ' = [some (.str z), some (.lst ((l0 :: ls).map .str)), some (.own p), some (.str x), some (.lst (ws.map .str)), none, none, none, none, none, none, none, none, none, none] ∧ O' = put O p (.lst ((cols2 ((colsIn l0).take i)).map colD)) ∧ ∃ a b, ws = [a, b] ∧ colB [a, b] = true) ?_ ?_
      · have two : (∃ a b, ws = [a, b]) ∨ (ws.length ≠ 2 ∧ colB ws = false) := by
          match ws with
          | [] => exact .inr ⟨by decide, by unfold colB; rfl⟩
          | [_] => exact .inr ⟨by simp, by unfold colB; rfl⟩
          | [a, b] => exact .inl ⟨a, b, rfl⟩
          | _ :: _ :: _ :: _ => exact .inr ⟨by simp, by unfold colB; rfl⟩
        rcases two with ⟨a, b, rfl⟩ | ⟨hne, hcb⟩
        · have no : colB [a, b] = false → k (.int 0) O := fun q => bad (by rw [q]; rfl)
          rw [colB_two] at no
          have hal := hwl a List.mem_cons_self
          have hao := hwo a List.mem_cons_self
          walk_at "tv"
          refine ⟨a, rfl, hal, hao, ?_⟩
          refine ⟨nameB a, rfl, ?_⟩
          cases hna : nameB a
          · refine iteT ?_
            walk_at "tv"
            exact Ret.same (.put hp) (no (by rw [hna, Bool.false_and]))
          · refine iteF ?_
            walk_at "tv"
            refine wo_ninT rfl rfl rfl rfl ?_
            refine ⟨!sortB b, by unfold sortB; rfl, ?_⟩
            cases hsb : sortB b
            · refine iteT ?_
              walk_at "tv"
              exact Ret.same (.put hp) (no (by rw [hsb, Bool.and_false]))
            · refine iteF ?_
              walk_at "tv"
              exact ⟨rfl, rfl, a, b, rfl, by rw [colB_two, hna, hsb]; rfl⟩
        · have no : k (.int 0) O := bad (by rw [hcb]; rfl)
          walk_at "tv"
          · rename_i h
            rw [List.length_map] at h
            omega
          · exact Ret.same (.put hp) no
      · rintro Γ' O' ⟨rfl, rfl, a, b, rfl, hcb⟩
        rw [hcb, Bool.true_and] at bad
        refine ws_consK (P := fun Γ' O' => Γ' = [some (.str z), some (.lst ((l0 :: ls).map .str)), some (.own p), some (.str x), some (.lst ([a, b].map .str)), none, none, none, none, none, none, none, none, none, none] ∧ O' = put O p (.lst ((cols2 ((colsIn l0).take i)).map colD)) ∧ a ∉ namesOf ((colsIn l0).take i)) (ws_if ?_) ?_
        · refine wt_view (Γ' := [none, none, some (.lst ((cols2 ((colsIn l0).take i)).map colD)), none, some (.lst ([a, b].map .str)), none, none, none, none, none, none, none, none, none, none]) (.off (.off (.on (.own put_same (fz_same _)) (.off (.on (.same _) (.off (.off (.off (.off (.off (.off (.off (.off (.off (.off .nil))))))))))))))) ?_ ?_
          · intro q od h
            by_cases e : q = p
            · rw [e, put_same] at h
              cases h
              trivial
            · rw [put_ne e] at h
              exact hlt q od h
          refine wt_cmp rfl ?_
          walk_at "tv"
          refine we_lc [("_law_name", 12), ("_law_sort", 13)] (.tup [.nm 12, .nm 13]) rfl sc__law_table_in.nd rfl (.inl rfl) (fun _ => rfl) (fun s0 H0 C0 cl0 fp0 => pg_tup rfl (pgs_cons (pg_name (i := 12) sc__law_table_in.nd rfl (Or.inl rfl) (Or.inr rfl)) (pgs_cons (pg_name (i := 13) sc__law_table_in.nd rfl (Or.inl rfl) (Or.inr rfl)) pgs_nil))) (by decide) ?_
          refine it_list ?_
          walk_at "tv"
          refine ⟨_, .inl rfl, ?_⟩
          refine lc_mapL (cols2 ((colsIn l0).take i)) colD (fun c => .str c.1) hcl (fun c hc O2 ag => ⟨_, rfl, fun s0 H0 C0 cl0 fp0 => ?_⟩) ?_
          · refine e_va (x := "_law_name") (i := 12) ⟨rfl, by walk_at "vis", by decide, by decide⟩ fun va12 => ?_
            walk_at "tv"
            exact ⟨rfl, rfl⟩
          walk_at "tv"
          refine wo_inL sq_lst rfl ?_ rfl ?_ ⟨_, rfl, ?_⟩
          · rw [List.all_eq_true]
            intro d hd
            obtain ⟨c, _, rfl⟩ := List.mem_map.mp hd
            rfl
          · rw [List.all_eq_true]
            intro d hd
            obtain ⟨e, he, rfl⟩ := List.mem_map.mp hd
            obtain ⟨c, _, rfl⟩ := List.mem_map.mp he
            rfl
          rw [inV_names]
          have en : ((cols2 ((colsIn l0).take i)).any fun c => decide (c.1 = a)) = decide (a ∈ namesOf ((colsIn l0).take i)) := by
            unfold cols2 namesOf
            rw [List.any_map, Bool.eq_iff_iff, List.any_eq_true, decide_eq_true_iff, List.mem_map]
            constructor
            · rintro ⟨w, hw, q⟩
              exact ⟨w, hw, of_decide_eq_true q⟩
            · rintro ⟨w, hw, q⟩
              exact ⟨w, hw, decide_eq_true q⟩
          rw [en]
          refine iteBo (fun hb => ?_) fun hb => ?_
          · walk_at "tv"
            exact Ret.same (.put hp) (bad (by rw [decide_eq_true (show [a, b].headD "" ∈ namesOf _ from of_decide_eq_true hb)]; rfl))
          · walk_at "tv"
            exact ⟨rfl, rfl, of_decide_eq_false hb⟩
        · rintro Γ' O' ⟨rfl, rfl, hna⟩
          walk_at "tv"
          ((with_reducible refine' we_bm (T := "list") (id := "list.append") PySem.F.plainAttrs_list PySem.F.slot_list_append PySem.F.type_list_append ?ap1 ?ap2 ?ap3 ?ap4 ?ap5 ?_); (case ap1 => rfl); (case ap2 => rfl); (case ap3 => rfl); (case ap4 => rfl); (case ap5 => rfl))
          walk_at "tv"
          refine tyq_own put_same ?_
          walk_at "tv"
          refine (wm_append (O := put O p _) put_same (show ((cols2 ((colsIn l0).take i)).map colD).length < sizeLine by rw [List.length_map, sizeLine_eq]; omega) ?_)
          rw [put_put]
          refine ⟨some (.str x), some (.lst ([a, b].map .str)), rfl, ?_, ?_⟩
          · rw [htk]
            unfold cols2
            rw [List.map_append, List.map_append]
            rfl
          · rw [htk, good_snoc hgood, hcb]
            rw [decide_eq_false (show ¬ [a, b].headD "" ∈ namesOf _ from hna)]
            rfl
    · rintro Γ' O' ⟨v3, v4, rfl, rfl, hgood⟩
      have el : (((Txt.split l0 ", ").map D.str).length : Nat) = (colsIn l0).length := by
        unfold colsIn
        rw [List.length_map, List.length_map]
      rw [el, List.take_length] at hgood
      rw [el, List.take_length]
      have hb : colsB (colsIn l0) = true := by rw [colsB_good wnn]; exact hgood
      have co := cok_in2 (hlen l0 List.mem_cons_self) hc0 hb
      have csz := co.sz
      have t1 := fun i => t1 i hb
      have t2 := t2 hb
      clear no0 t0 hgood wnn el
      generalize cols2 (colsIn l0) = cs at *
      show WSs _ _ _ _ _
      refine wss_frz (i := 2) put_same rfl ?_
      rw [del_put hp]
      walk_at "tv"
      (with_reducible refine' we_lstO ?_)
      refine wa_nil ⟨Nat.zero_le _, fun q hq => ?_⟩
      walk_at "tv"
      refine ws_for PassesOwn.never rfl (fun _ => rfl) ?_
      refine it_enum rfl b_enum rfl ?_
      walk_at "tv"
      refine ⟨_, .inl rfl, ?_⟩
      refine ⟨fun i Γ' O' => ∃ v3 v4 v6 v7 v8 v9 v10 v11, Γ' = [some (.str z), some (.lst ((l0 :: ls).map .str)), some (.lst (cs.map colD)), v3, v4, some (.own q), v6, v7, v8, v9, v10, v11, none, none, none] ∧ O' = put O q (.lst (rowsAt cs ls i)) ∧ ∀ l ∈ ls.take (i - 1), rowIn cs l ≠ none, ⟨_, _, _, _, _, _, _, _, rfl, rfl, fun l hl => by simp at hl⟩, ?_, ?_⟩
      · rintro i d Γ' O' hd ⟨v3, v4, v6, v7, v8, v9, v10, v11, rfl, rfl, hrows⟩
        obtain ⟨l, rfl, hl⟩ : ∃ l : Str, d = .tup [.int (i : Nat), .str l] ∧ (l0 :: ls)[i]? = some l := by
          unfold enumD at hd
          rw [List.getElem?_map, List.getElem?_zipIdx, List.getElem?_map] at hd
          cases hci : (l0 :: ls)[i]? with
          | none => rw [hci] at hd; cases hd
          | some l =>
            rw [hci] at hd
            refine ⟨l, ?_, rfl⟩
            have := (Option.some.inj hd).symm
            simpa using this
        have hlm := List.mem_of_getElem? hl
        have hll := hlen l hlm
        have hlo := hok l hlm
        have hsl := split_comma hll
        walk_at "tv"
        (with_reducible refine' ws_setLc (j := 8) [("_law_word_here", 14)] (.nm 14) ?c1 ?c2 ?c3 ?c4 ?c5 ?c6 ?c7 ?c8 ?c9 ?c10 ?_); (case c1 => rfl); (case c2 => exact sc__law_table_in.nd); (case c3 => rfl); (case c4 => rfl); (case c5 => rfl); (case c6 => rfl); (case c7 => exact .inl rfl); (case c8 => exact fun _ => rfl); (case c9 => exact fun s0 H0 C0 cl0 fp0 => pg_name (i := 14) sc__law_table_in.nd rfl (Or.inl rfl) (Or.inr rfl)); (case c10 => decide)
        refine it_list ?_
        walk_at "tv"
        refine wm_split (by decide +kernel) (split_room (by omega)) ⟨_, .inl rfl, ?_⟩
        refine lc_mapL (Txt.split l ", ") D.str (fun w => .lst (cellL w)) (by omega) (fun w hw O2 ag => ⟨_, rfl, fun s0 H0 C0 cl0 fp0 => ?_⟩) ?_
        · refine e_va (x := "_law_word_here") (i := 14) ⟨rfl, by walk_at "vis", by decide, by decide⟩ fun va14 => ?_
          refine e_kn (h_cell.kn rfl rfl rfl rfl rfl rfl (by decide)) fun kn_cell => ?_
          walk_at "tv"
          exact ⟨w, rfl, Nat.le_trans (split_mem sp_comma hw) hll, ok_split hlo hw, rfl, rfl⟩
        show WSs _ _ _ _ _
        rcases i with _ | i
        · walk_at "tv"
          refine ws_forU PassesOwn.never rfl (fun _ => rfl) ?_
          refine it_zipM rfl b_zip rfl rfl ?_
          walk_at "tv"
          refine ⟨[], cs.map colD, rfl, ?_⟩
          show LoopD _ _ _ _ [] _ _
          refine loop_nil ?_
          walk_at "tv"
          ((with_reducible refine' we_bm (T := "list") (id := "list.append") PySem.F.plainAttrs_list PySem.F.slot_list_append PySem.F.type_list_append ?aq1 ?aq2 ?aq3 ?aq4 ?aq5 ?_); (case aq1 => rfl); (case aq2 => rfl); (case aq3 => rfl); (case aq4 => rfl); (case aq5 => rfl))
          walk_at "tv"
          refine tyq_own put_same ?_
          walk_at "tv"
          refine wm_append (O := put O q _) put_same (show 0 < sizeLine by decide) ?_
          rw [put_put]
          exact ⟨_, _, _, _, _, _, _, _, rfl, rfl, fun l hl => by simp at hl⟩
        · have hli : ls[i]? = some l := by simpa using hl
          have no : rowIn cs l = none → k (.int ((i + 1 : Nat) : Int)) O := fun qn => by
            have h := t1 (1 + i) (bad_at hli (fun j x hj hx => hrows x (List.mem_of_getElem? (i := j) (by rw [List.getElem?_take, if_pos (show j < i + 1 - 1 by omega)]; exact hx))) qn)
            rw [h, Nat.add_comm] at hk
            exact hk
          have rr := row_rel (cs := cs) (z := l) fun c hc => sorts_in co hc
          have hwo : ∀ w ∈ Txt.split l ", ", PyData.strOk w = true := fun w hw => ok_split hlo hw
          have hun := Room.units hr
          refine ws_consK (P := fun Γ' O' => Γ' = [some (.str z), some (.lst ((l0 :: ls).map .str)), some (.lst (cs.map colD)), v3, v4, some (.own q), some (.int ((i + 1 : Nat) : Int)), some (.str l), some (.lst ((Txt.split l ", ").map fun w => .lst (cellL w))), v9, v10, v11, none, none, none] ∧ O' = put O q (.lst (rowsAt cs ls (i + 1))) ∧ (Txt.split l ", ").length = cs.length ∧ ∀ w ∈ Txt.split l ", ", cellL w ≠ []) ?_ ?_
          · walk_at "tv"
            all_goals try (exfalso; omega)
            refine we_lst ?_
            walk_at "tv"
            obtain ⟨a1, a2, a3⟩ := parts_py hwo
            have shp : SeqAt.shaped (D.lst ((Txt.split l ", ").map fun w => .lst (cellL w))).py = true := by
              unfold SeqAt.shaped
              rw [D.py, PyData.canLay0, a2, PyData.depth, decide_eq_true (by omega)]
              rfl
            refine wo_inD (Nat.lt_of_le_of_lt (Nat.le_trans (Nat.add_le_add_left (show 65 ≤ 232 by decide) _) (Nat.le_of_eq (Nat.add_assoc _ 32 200).symm)) hr.un) rfl (by rw [D.isPy]; exact a1) rfl shp ⟨_, rfl, ?_⟩
            rw [parts_nil]
            refine iteBo (fun hany => ?_) fun hany => ?_
            · walk_at "tv"
              refine Ret.same (.put hq) (no ?_)
              rw [rr, if_neg]
              rintro ⟨e1, e2⟩
              obtain ⟨w, hw, ew⟩ := List.any_eq_true.mp hany
              obtain ⟨j, hj⟩ := List.mem_iff_getElem?.mp hw
              have jl := (List.getElem?_eq_some_iff.mp hj).1
              refine e2 (w, cs[j]'(by omega)) (List.mem_of_getElem? (i := j) (by rw [List.getElem?_zip_eq_some]; exact ⟨hj, List.getElem?_eq_getElem (by omega)⟩)) ?_
              show fitL _ (cellL w) = none
              rw [of_decide_eq_true ew]
              rfl
            · have hcn : ∀ w ∈ Txt.split l ", ", cellL w ≠ [] := fun w hw e => by
                have h := List.any_eq_false.mp hany w hw
                exact h (decide_eq_true e)
              walk_at "tv"
              · rename_i h
                rw [List.length_map, List.length_map] at h
                exact ⟨rfl, rfl, by omega, hcn⟩
              · rename_i h
                rw [List.length_map, List.length_map] at h
                exact Ret.same (.put hq) (no (by rw [rr, if_neg fun e => h (by rw [e.1])]))
          · rintro Γ' O' ⟨rfl, rfl, hlen2, hcn⟩
            walk_at "tv"
            refine e_bt (x := "tuple") (T := "tuple") ⟨rfl, b_tuple, by decide +kernel, by decide, by decide⟩ fun bt_tuple => ?_
            walk_at "tv"
            refine we_lc [("_law_part", 3)] (.nm 3) rfl sc__law_table_in.nd rfl (.inl rfl) (fun _ => rfl) (fun s0 H0 C0 cl0 fp0 => pg_name (i := 3) sc__law_table_in.nd rfl (Or.inl rfl) (Or.inr rfl)) (by decide) ?_
            refine it_list ?_
            walk_at "tv"
            refine ⟨_, .inl rfl, ?_⟩
            refine lc_mapL (Txt.split l ", ") (fun w => .lst (cellL w)) (fun w => (cellL w).headD .non) (by omega) (fun w hw O2 ag => ⟨_, rfl, fun s0 H0 C0 cl0 fp0 => ?_⟩) ?_
            · refine e_va (x := "_law_part") (i := 3) ⟨rfl, by walk_at "vis", by decide, by decide⟩ fun va3 => ?_
              walk_at "tv"
              rcases cellL_cases w with e | ⟨d, e, _⟩
              · exact absurd e (hcn w hw)
              · rw [e]
                refine wi_list sq_lst (atI_nat (j := 0) rfl) ?_
                exact ⟨rfl, rfl⟩
            walk_at "tv"
            rotate_left
            · exfalso
              omega
            refine wc_tupL sq_lst ?_
            walk_at "tv"
            refine ws_for PassesOwn.never rfl (fun _ => rfl) ?_
            refine it_zipM rfl b_zip rfl rfl ?_
            walk_at "tv"
            refine ⟨(Txt.split l ", ").map fun w => (cellL w).headD .non, cs.map colD, rfl, ?_⟩
            have ez : zipD ((Txt.split l ", ").map fun w => (cellL w).headD .non) (cs.map colD) = ((Txt.split l ", ").zip cs).map fun p => .tup [(cellL p.1).headD .non, colD p.2] := by
              rw [zip_cols, List.zip_map_left, List.map_map]
              rfl
            rw [ez]
            refine ⟨fun j Γ' O' => ∃ v10 v11, Γ' = [some (.str z), some (.lst ((l0 :: ls).map .str)), some (.lst (cs.map colD)), v3, v4, some (.own q), some (.int ((i + 1 : Nat) : Int)), some (.str l), some (.lst ((Txt.split l ", ").map fun w => .lst (cellL w))), some (.tup ((Txt.split l ", ").map fun w => (cellL w).headD .non)), v10, v11, none, none, none] ∧ O' = put O q (.lst (rowsAt cs ls (i + 1))) ∧ ∀ p ∈ ((Txt.split l ", ").zip cs).take j, fitL p.2.2 (cellL p.1) ≠ none, ⟨_, _, rfl, rfl, fun p hp => by simp at hp⟩, ?_, ?_⟩
            · rintro j d Γ' O' hd ⟨v10, v11, rfl, rfl, hfit⟩
              obtain ⟨pc, rfl, hpc⟩ : ∃ pc : Str × Col, d = .tup [(cellL pc.1).headD .non, colD pc.2] ∧ ((Txt.split l ", ").zip cs)[j]? = some pc := by
                rw [List.getElem?_map] at hd
                cases h : ((Txt.split l ", ").zip cs)[j]? with
                | none => rw [h] at hd; cases hd
                | some x => rw [h] at hd; exact ⟨x, (Option.some.inj hd).symm, rfl⟩
              have hpm := List.mem_of_getElem? hpc
              have nofit : fitL pc.2.2 (cellL pc.1) = none → k (.int ((i + 1 : Nat) : Int)) O := fun e => no (by rw [rr, if_neg fun h => h.2 pc hpm e])
              have fin : fitL pc.2.2 (cellL pc.1) ≠ none → ∀ p ∈ ((Txt.split l ", ").zip cs).take (j + 1), fitL p.2.2 (cellL p.1) ≠ none := fun h p hp => by
                rw [List.take_add_one, hpc] at hp
                rcases List.mem_append.mp
                    hp with hp | hp
                · exact hfit p hp
                · rw [show p = pc by simpa using hp]
                  exact h
              obtain ⟨w, s0, t0⟩ := pc
              rcases cellL_cases w with e | ⟨d, e, hd2⟩
              · exact absurd e (hcn w (List.of_mem_zip hpm).1)
              rw [e] at nofit fin
              rw [show (cellL (w, s0, t0).1).headD D.non = d by show (cellL w).headD D.non = d; rw [e]; rfl]
              rcases hd2 with ⟨_, rfl⟩ | ⟨_, ⟨_, y, rfl⟩ | ⟨_, n, rfl⟩⟩
              · walk_at "tv"
                exact ⟨_, _, rfl, rfl, fin (by unfold fitL; exact Option.some_ne_none _)⟩
              · walk_at "tv"
                refine e_bn (x := "isinstance") (id := "isinstance") ⟨rfl, b_isi, by decide +kernel, by decide, by decide⟩ fun bn_isi => ?_
                refine e_bt (x := "str") (T := "str") ⟨rfl, b_str, by decide +kernel, by decide, by decide⟩ fun bt_str => ?_
                walk_at "tv"
                all_goals rcases (show t0 = "text" ∨ t0 = "number" from sorts_in co (List.of_mem_zip hpm).2) with rfl | rfl
                all_goals first
                  | exact ⟨_, _, rfl, rfl, fin fit_st⟩
                  | exact Ret.same (.put hq) (nofit fit_sn)
                  | (rename_i h; exact absurd (show _ = decide (("number" : Str) = "text") from h) (by decide +kernel))
                  | (rename_i h; exact absurd (show _ = decide (("text" : Str) = "text") from h) (by decide +kernel))
                  | (rename_i h; exact absurd (show ¬ _ = decide (("text" : Str) = "text") from h) (by decide +kernel))
                  | (rename_i h; exact absurd (show ¬ _ = decide (("number" : Str) = "text") from h) (by decide +kernel))
              · walk_at "tv"
                refine e_bn (x := "isinstance") (id := "isinstance") ⟨rfl, b_isi, by decide +kernel, by decide, by decide⟩ fun bn_isi => ?_
                refine e_bt (x := "str") (T := "str") ⟨rfl, b_str, by decide +kernel, by decide, by decide⟩ fun bt_str => ?_
                walk_at "tv"
                all_goals rcases (show t0 = "text" ∨ t0 = "number" from sorts_in co (List.of_mem_zip hpm).2) with rfl | rfl
                all_goals first
                  | exact ⟨_, _, rfl, rfl, fin fit_in⟩
                  | exact Ret.same (.put hq) (nofit fit_it)
                  | (rename_i h; exact absurd (show _ = decide (("number" : Str) = "text") from h) (by decide +kernel))
                  | (rename_i h; exact absurd (show _ = decide (("text" : Str) = "text") from h) (by decide +kernel))
                  | (rename_i h; exact absurd (show ¬ _ = decide (("text" : Str) = "text") from h) (by decide +kernel))
                  | (rename_i h; exact absurd (show ¬ _ = decide (("number" : Str) = "text") from h) (by decide +kernel))
            · rintro Γ' O' ⟨v10, v11, rfl, rfl, hfit⟩
              walk_at "tv"
              ((with_reducible refine' we_bm (T := "list") (id := "list.append") PySem.F.plainAttrs_list PySem.F.slot_list_append PySem.F.type_list_append ?ar1 ?ar2 ?ar3 ?ar4 ?ar5 ?_); (case ar1 => rfl); (case ar2 => rfl); (case ar3 => rfl); (case ar4 => rfl); (case ar5 => rfl))
              walk_at "tv"
              refine tyq_own put_same ?_
              walk_at "tv"
              rw [List.length_map, List.take_length] at hfit
              rw [List.length_cons] at hn
              refine wm_append (O := put O q _) put_same (show (rowsAt cs ls (i + 1)).length < sizeLine by rw [rowsAt, List.length_cons, List.length_map, List.length_take, sizeLine_eq]; omega) ?_
              rw [put_put]
              have hrow : rowIn cs l = some ((Txt.split l ", ").map fun w => (cellL w).headD .non) := by
                rw [rr, if_pos ⟨hlen2, hfit⟩]
                congr 1
                have e1 : (Txt.split l ", ").map (fun w => (cellL w).headD .non) = (((Txt.split l ", ").zip cs).map Prod.fst).map fun w => (cellL w).headD .non := by
                  rw [List.map_fst_zip (by omega)]
                rw [e1, List.map_map]
                exact List.map_congr_left fun p hp => fit_head (hfit p hp)
              refine ⟨_, _, _, _, _, _, _, _, rfl, ?_, fun x hx => ?_⟩
              · congr 2
                show rowsAt cs ls (i + 1) ++ _ = rowsAt cs ls (i + 1 + 1)
                rw [rowsAt, rowsAt, List.take_add_one, hli, List.map_append]
                show _ = D.tup [] :: (_ ++ [.tup ((rowIn cs l).getD [])])
                rw [hrow]
                rfl
              · have hx : x ∈ ls.take (i + 1) := hx
                rw [List.take_add_one, hli] at hx
                rcases List.mem_append.mp
                    hx with hx | hx
                · exact hrows x hx
                · rw [show x = l by simpa using hx, hrow]
                  exact Option.some_ne_none _
      · rintro Γ' O' ⟨v3, v4, v6, v7, v8, v9, v10, v11, rfl, rfl, hrows⟩
        have elen : (enumD ((l0 :: ls).map D.str)).length = ls.length + 1 := by
          unfold enumD
          rw [List.length_map, List.length_zipIdx, List.length_map, List.length_cons]
        rw [elen, Nat.add_sub_cancel, List.take_length] at hrows
        rw [elen]
        have er : rowsAt cs ls (ls.length + 1) = .tup [] :: ls.map fun l => .tup ((rowIn cs l).getD []) := by
          rw [rowsAt, List.take_length]
        rw [er]
        rw [t2 (bad_none hrows)] at hk
        walk_at "tv"
        refine we_lst ?_
        walk_at "tv"
        refine wsl_list (sq_own put_same) ?_
        rw [cut_tail]
        walk_at "tv"
        refine Ret.same (.put hq) ?_
        unfold tabRes at hk
        simp only [List.map_map] at hk
        exact hk
end
/-! ### what the law draws: words, numbers, cells -/

abbrev s__law_word : Stmt := top 42
abbrev n__law_word : List Str := ["_law_box_here", "_law_letters", "_law_turn"]
abbrev p__law_word : List Str := ["_law_box_here"]
theorem sc__law_word : FnScope n__law_word p__law_word (defScope s__law_word) := ⟨rfl, rfl, rfl, by decide +kernel, rfl, by decide +kernel, by decide +kernel⟩
abbrev s__law_number : Stmt := top 43
abbrev n__law_number : List Str := ["_law_box_here"]
abbrev p__law_number : List Str := ["_law_box_here"]
theorem sc__law_number : FnScope n__law_number p__law_number (defScope s__law_number) := ⟨rfl, rfl, rfl, by decide +kernel, rfl, by decide +kernel, by decide +kernel⟩
abbrev s__law_cell : Stmt := top 44
abbrev n__law_cell : List Str := ["_law_box_here", "_law_sort"]
abbrev p__law_cell : List Str := ["_law_box_here", "_law_sort"]
theorem sc__law_cell : FnScope n__law_cell p__law_cell (defScope s__law_cell) := ⟨rfl, rfl, rfl, by decide +kernel, rfl, by decide +kernel, by decide +kernel⟩
abbrev s__law_shuffled : Stmt := top 40
abbrev n__law_shuffled : List Str := ["_law_box_here", "_law_some", "_law_rest", "_law_found", "_law_turn"]
abbrev p__law_shuffled : List Str := ["_law_box_here", "_law_some"]
theorem sc__law_shuffled : FnScope n__law_shuffled p__law_shuffled (defScope s__law_shuffled) := ⟨rfl, rfl, rfl, by decide +kernel, rfl, by decide +kernel, by decide +kernel⟩
theorem rs_blanks : ∀ (n : Nat) (l : List Nat), rs (l ++ List.replicate n 32) = rs l
  | 0, l => by rw [List.replicate_zero, List.append_nil]
  | n + 1, l => by
    rw [List.replicate_succ', ← List.append_assoc, rs_snoc, if_pos rfl]
    exact rs_blanks n l
theorem txt_of {z : Str} {l : List Nat} {n : Nat} (e : z.cps.toList = l ++ List.replicate n 32) (hl : l.length + n ≤ 10) (hc : ∀ c ∈ l, c ∈ letS.cps.toList) : txtB z = true ∧ z.length ≤ 10 := by
  have hz : z.length ≤ 10 := by
    rw [zlen, e, List.length_append, List.length_replicate]
    exact hl
  refine ⟨?_, hz⟩
  unfold txtB
  rw [rstrip_tl, e, rs_blanks, decide_eq_true hz, Bool.true_and, List.all_eq_true]
  intro c h
  exact decide_eq_true (hc c (rs_sub c h))
def sWord : SpD := fun ds O k _ => ds = [.box] ∧ ∀ z : Str, txtB z = true → z.length ≤ 10 → k (.str z) O
theorem ones_sum : ∀ {ys : List Str}, (∀ y ∈ ys, y.length = 1) → (ys.map (·.length)).sum = ys.length
  | [], _ => rfl
  | y :: ys, h => by
    rw [List.map_cons, List.sum_cons, ones_sum fun z hz => h z (List.mem_cons_of_mem _ hz), h y (List.mem_cons_self ..), List.length_cons]
    omega
theorem blanks_el {e : D} (h : e ∈ [D.int 0, .int 0, .int 0, .int 1, .int 1, .int 2]) : ∃ n : Nat, e = .int (n : Int) ∧ n ≤ 2 := by
  simp only [List.mem_cons, List.not_mem_nil, or_false] at h
  rcases h with rfl | rfl | rfl | rfl | rfl | rfl
  · exact ⟨0, rfl, by omega⟩
  · exact ⟨0, rfl, by omega⟩
  · exact ⟨0, rfl, by omega⟩
  · exact ⟨1, rfl, by omega⟩
  · exact ⟨1, rfl, by omega⟩
  · exact ⟨2, rfl, by omega⟩
theorem cut_words : ∀ t : Nat, t < 5 → txtB (cutS (cutS "aBcDeFgHiZ" (some (t : Int)) none ++ "   ") none (some 10)) = true ∧ (cutS (cutS "aBcDeFgHiZ" (some (t : Int)) none ++ "   ") none (some 10)).length ≤ 10 := by decide +kernel
theorem sp_times (n : Nat) (h : n ≤ 2) : (timesS " " n).cps.toList = List.replicate n 32 := by
  rcases (show n = 0 ∨ n = 1 ∨ n = 2 by omega) with rfl | rfl | rfl <;> rfl
theorem pm_word (Dd : Df K mg "_law_word" s__law_word p__law_word) (h_take : Pm P w K mg base "_law_take" 1 sTake) (h_pick : Pm P w K mg base "_law_pick" 2 sPick) (b_range : mg "range" = none) : Pm P w K mg base "_law_word" 3 sWord := by
  refine Pm.of Dd sc__law_word (fun ds O k kx h => by rw [h.1]; rfl) (fun f cdv A outer s H E hg hr ds O k kx hS => ?_)
  obtain ⟨rfl, hk⟩ := hS
  refine with_va (x := "_law_box_here") (i := 0) ⟨rfl, by walk_at "vis", by decide, by decide⟩ fun va0 => ?_
  refine with_va (x := "_law_letters") (i := 1) ⟨rfl, by walk_at "vis", by decide, by decide⟩ fun va1 => ?_
  refine with_vs (x := "_law_letters") (i := 1) ⟨sc__law_word.nd, rfl, by walk_at "loc", .inl rfl⟩ fun vs1 => ?_
  refine with_kn (h_take.kn rfl rfl rfl rfl rfl rfl (by decide)) fun kn_take => ?_
  walk_at "body"
  walk_at "zv"
  · rename_i t t0 t1
    obtain ⟨n, rfl⟩ := Int.eq_ofNat_of_zero_le t0
    refine wsl_str (by decide +kernel) ?_
    have hl : (cutS "aBcDeFgHiZ" (some (n : Int)) none).length ≤ 10 := len_cutZ "aBcDeFgHiZ" (some (n : Int)) none
    walk_at "zv"
    refine wo_addS (by rw [sizeLine_eq]; show _ + 3 ≤ _; omega) ?_
    walk_at "zv"
    have hl2 : (cutS "aBcDeFgHiZ" (some (n : Int)) none ++ "   ").length ≤ 13 := by
      rw [len_add]
      show _ + 3 ≤ _
      omega
    obtain ⟨w1, w2⟩ := cut_words n (by omega)
    exact wsl_str (by rw [sizeLine_eq]; omega) (Ret.of (hk _ w1 w2))
  · refine we_lc [("_law_turn", 2)] (.nm 2) rfl sc__law_word.nd rfl (.inl rfl) (fun _ => rfl) (fun s0 H0 C0 cl0 fp0 => pg_name (i := 2) sc__law_word.nd rfl (Or.inl rfl) (Or.inr rfl)) (by decide) ?_
    refine it_range1 rfl b_range rfl ?_
    walk_at "zv"
    rename_i t t0 t1
    refine lc_anyL (List.range t.toNat) (fun i => .int (0 + (i : Nat))) (fun _ y => ∃ c, y = .str ⟨#[c]⟩ ∧ c ∈ ("aAbBxz" : Str).cps.toList) (by rw [List.length_range]; omega) (fun i _ O2 ag => ⟨_, rfl, fun s0 H0 C0 cl0 fp0 => ?_⟩) fun acc ha => ?_
    · refine we_call (h_pick.kn rfl rfl rfl rfl rfl rfl (by decide)) hg (Room.mono hr (by decide)) rfl rfl ?_
      refine wa_cons rfl (we_var (i := 0) (d := .box) ⟨rfl, by walk_at "vis", by decide, by decide⟩ rfl ?_)
      refine wa_cons rfl (we_str (wa_nil ?_))
      exact sPick_s (by decide +kernel) fun c hc => ⟨rfl, c, rfl, hc⟩
    · have hacc : ∃ l : List Nat, acc = l.map (fun c => D.str ⟨#[c]⟩) ∧ (∀ c ∈ l, c ∈ ("aAbBxz" : Str).cps.toList) ∧ l.length = t.toNat := by
        have hl := ha.1
        rw [List.length_range] at hl
        have key : ∀ (m : List Nat) (bs : List D), All2 (fun (_ : Nat) y => ∃ c, y = .str ⟨#[c]⟩ ∧ c ∈ ("aAbBxz" : Str).cps.toList) m bs → ∃ l : List Nat, bs = l.map (fun c => D.str ⟨#[c]⟩) ∧ (∀ c ∈ l, c ∈ ("aAbBxz" : Str).cps.toList) ∧ l.length = m.length := fun m => by
          induction m with
          | nil => exact fun bs h => ⟨[], h.nil, fun c h => (by cases h), rfl⟩
          | cons a m ih =>
            intro bs h
            obtain ⟨y, es, rfl, ⟨c, rfl, hc⟩, h2⟩ := h.cons
            obtain ⟨l, rfl, g1, g2⟩ := ih es h2
            refine ⟨c :: l, rfl, fun d hd => ?_, by rw [List.length_cons, g2, List.length_cons]⟩
            rcases List.mem_cons.mp
                hd with rfl | hd
            · exact hc
            · exact g1 d hd
        obtain ⟨l, e1, e2, e3⟩ := key _ acc ha
        exact ⟨l, e1, e2, by rw [e3, List.length_range]⟩
      obtain ⟨l, rfl, hl1, hl2⟩ := hacc
      refine wa_nil (wm_join (ys := l.map fun c => (⟨#[c]⟩ : Str)) (.inl (by rw [List.map_map]; rfl)) ?_ ?_)
      · rw [ones_sum fun y hy => by
          obtain ⟨c, _, rfl⟩ := List.mem_map.mp hy
          rfl]
        rw [List.length_map]
        show _ + _ * 0 ≤ _
        omega
      · have hJ : (Txt.join "" (l.map fun c => (⟨#[c]⟩ : Str))).cps.toList = l := by
          rw [join_tl, List.map_map]
          clear hl1 hl2 ha
          induction l with
          | nil => rfl
          | cons a l ih => rw [List.map_cons, List.flatten_cons, ih]; rfl
        generalize Txt.join "" (l.map fun c => (⟨#[c]⟩ : Str)) = z at hJ
        have hzl : z.length ≤ 4 := by rw [zlen, hJ]; omega
        walk_at "zvl"
        rename_i q q0 q1
        refine wi_any sq_lst q0 q1 fun e m => ?_
        obtain ⟨n, rfl, hn⟩ := blanks_el m
        refine wo_mulS (by omega) (by decide +kernel) (by decide +kernel) ?_
        have hb := sp_times n hn
        have hbl : (timesS " " n).length ≤ 2 := by rw [zlen, hb, List.length_replicate]; exact hn
        have key : ∀ c ∈ ("aAbBxz" : Str).cps.toList, c ∈ letS.cps.toList := by decide +kernel
        obtain ⟨w1, w2⟩ := txt_of (z := z ++ timesS " " n) (l := l) (n := n) (by rw [add_tl, hJ, hb]) (by omega) fun c hc => key c (hl1 c hc)
        exact wo_addS (by rw [sizeLine_eq]; omega) (Ret.of (hk _ w1 w2))
def sNumber : SpD := fun ds O k _ => ds = [.box] ∧ ∀ n : Int, numB n = true → k (.int n) O
theorem pm_number (Dd : Df K mg "_law_number" s__law_number p__law_number) (h_take : Pm P w K mg base "_law_take" 1 sTake) : Pm P w K mg base "_law_number" 2 sNumber := by
  refine Pm.of Dd sc__law_number (fun ds O k kx h => by rw [h.1]; rfl) (fun f cdv A outer s H E hg hr ds O k kx hS => ?_)
  obtain ⟨rfl, hk⟩ := hS
  refine with_va (x := "_law_box_here") (i := 0) ⟨rfl, by walk_at "vis", by decide, by decide⟩ fun va0 => ?_
  refine with_kn (h_take.kn rfl rfl rfl rfl rfl rfl (by decide)) fun kn_take => ?_
  walk_at "body"
  walk_at "zvl"
  all_goals refine Ret.of (hk _ ?_)
  all_goals (try rw [show (10 : Int) ^ Int.toNat 6 = 1000000 from by decide])
  all_goals unfold numB
  all_goals simp only [Bool.and_eq_true, decide_eq_true_eq]
  all_goals omega
def sCell : SpD := fun ds O k _ => ∃ s : Str, ds = [.box, .str s] ∧ ∀ d, CellOk s d → k d O
theorem pm_cell (Dd : Df K mg "_law_cell" s__law_cell p__law_cell) (h_take : Pm P w K mg base "_law_take" 1 sTake) (h_word : Pm P w K mg base "_law_word" 3 sWord) (h_number : Pm P w K mg base "_law_number" 2 sNumber) : Pm P w K mg base "_law_cell" 4 sCell := by
  refine Pm.of Dd sc__law_cell (fun ds O k kx h => by obtain ⟨_, h, _⟩ := h; rw [h]; rfl) (fun f cdv A outer s H E hg hr ds O k kx hS => ?_)
  obtain ⟨so, rfl, hk⟩ := hS
  refine with_va (x := "_law_box_here") (i := 0) ⟨rfl, by walk_at "vis", by decide, by decide⟩ fun va0 => ?_
  refine with_va (x := "_law_sort") (i := 1) ⟨rfl, by walk_at "vis", by decide, by decide⟩ fun va1 => ?_
  refine with_kn (h_take.kn rfl rfl rfl rfl rfl rfl (by decide)) fun kn_take => ?_
  refine with_kn (h_word.kn rfl rfl rfl rfl rfl rfl (by decide)) fun kn_word => ?_
  refine with_kn (h_number.kn rfl rfl rfl rfl rfl rfl (by decide)) fun kn_number => ?_
  walk_at "body"
  walk_at "zv"
  · exact Ret.of (hk _ (.inl rfl))
  · exact ⟨rfl, fun z h1 h2 => Ret.of (hk _ (.inr (.inl ⟨by assumption, z, rfl, by omega, h1⟩)))⟩
  · exact ⟨rfl, fun n h1 => Ret.of (hk _ (.inr (.inr ⟨by assumption, n, rfl, h1⟩)))⟩
/-! ### what the law draws: things put in another order, names -/
section
variable {X : Cx} {Γ : Sg} {O : Ow} {k : KD} {kx : KX} {De : DE}
theorem tym_own {p : Addr} {ds : List D} {q : Prop} (ho : O p = some (.lst ds)) (h : q) : TyM O (.own p) "list" ∧ q := ⟨.inl ⟨rfl, ds, sq_own ho⟩, h⟩
theorem seq_in {n : Nat} {i : Int} (h0 : 0 ≤ i) (h1 : i < n) : seqIndex? i n = some i.toNat := (ixN_seq (by unfold ixN; rw [if_pos h0, if_pos h1])).1
theorem put_swap {a b : Addr} {x y z : OD} (h : a ≠ b) : put (put (put O a x) b y) a z = put (put O a z) b y := by
  funext c
  unfold put
  by_cases q : c = a
  · have q2 : ¬ c = b := fun e => h (q.symm.trans e)
    simp only [q, q2, h, if_true, if_false]
  · simp only [q, if_false]
theorem erase_perm : ∀ {l : List D} {j : Nat} (h : j < l.length), (l[j] :: l.eraseIdx j).Perm l
  | _ :: _, 0, _ => .refl _
  | a :: l, j + 1, h => (List.Perm.swap a _ _).trans (.cons a (erase_perm (l := l) (j := j) (Nat.lt_of_succ_lt_succ h)))
theorem perm_pop {xs rs fs : List D} {j : Nat} {e : D} (hp : (rs ++ fs).Perm xs) (he : rs[j]? = some e) : (rs.eraseIdx j ++ (fs ++ [e])).Perm xs := by
  refine List.Perm.trans ?_ hp
  obtain ⟨hj, rfl⟩ := List.getElem?_eq_some_iff.mp he
  have h1 : (rs[j] :: rs.eraseIdx j).Perm rs := erase_perm hj
  have h2 : (rs.eraseIdx j ++ (fs ++ [rs[j]])).Perm (rs[j] :: (rs.eraseIdx j ++ fs)) := by
    rw [← List.append_assoc]
    exact List.perm_append_singleton _ _
  exact h2.trans (h1.append_right fs)
end
def sShuf : SpD := fun ds O k _ => ∃ (d : D) (xs : List D), ds = [.box, d] ∧ SqD O d xs ∧ xs.length ≤ 100 ∧ ∀ ys : List D, ys.Perm xs → k (.lst ys) O
theorem pm_shuf (Dd : Df K mg "_law_shuffled" s__law_shuffled p__law_shuffled) (h_take : Pm P w K mg base "_law_take" 1 sTake) (b_list : mg "list" = none) (b_len : mg "len" = none) (b_range : mg "range" = none) : Pm P w K mg base "_law_shuffled" 2 sShuf := by
  refine Pm.of Dd sc__law_shuffled (fun ds O k kx h => by obtain ⟨_, _, h, _⟩ := h; rw [h]; rfl) (fun f cdv A outer s H E hg hr ds O k kx hS => ?_)
  obtain ⟨d, xs, rfl, hd, hz, hk⟩ := hS
  refine with_va (x := "_law_box_here") (i := 0) ⟨rfl, by walk_at "vis", by decide, by decide⟩ fun va0 => ?_
  refine with_va (x := "_law_some") (i := 1) ⟨rfl, by walk_at "vis", by decide, by decide⟩ fun va1 => ?_
  refine with_va (x := "_law_rest") (i := 2) ⟨rfl, by walk_at "vis", by decide, by decide⟩ fun va2 => ?_
  refine with_va (x := "_law_found") (i := 3) ⟨rfl, by walk_at "vis", by decide, by decide⟩ fun va3 => ?_
  refine with_va (x := "_law_turn") (i := 4) ⟨rfl, by walk_at "vis", by decide, by decide⟩ fun va4 => ?_
  refine with_vs (x := "_law_rest") (i := 2) ⟨sc__law_shuffled.nd, rfl, by walk_at "loc", .inl rfl⟩ fun vs2 => ?_
  refine with_vs (x := "_law_found") (i := 3) ⟨sc__law_shuffled.nd, rfl, by walk_at "loc", .inl rfl⟩ fun vs3 => ?_
  refine with_vs (x := "_law_turn") (i := 4) ⟨sc__law_shuffled.nd, rfl, by walk_at "loc", .inl rfl⟩ fun vs4 => ?_
  refine with_bt (x := "list") (T := "list") ⟨rfl, b_list, by decide +kernel, by decide, by decide⟩ fun bt_list => ?_
  refine with_bn (x := "len") (id := "len") ⟨rfl, b_len, by decide +kernel, by decide, by decide⟩ fun bn_len => ?_
  refine with_kn (h_take.kn rfl rfl rfl rfl rfl rfl (by decide)) fun kn_take => ?_
  walk_at "body"
  walk_at "zv"
  refine wc_listLO hd fun p hp => ?_
  refine wa_cons rfl (we_lstO (wa_nil ⟨Nat.zero_le _, fun q hq => ?_⟩))
  have hpq : p ≠ q := fun e => by
    rw [← e, put_same] at hq
    cases hq
  have hOq : O q = none := by rwa [put_ne (Ne.symm hpq)] at hq
  refine wa_nil (par_i ?_)
  refine ws_cons (ws_for PassesOwn.never rfl (fun _ => rfl) ?_)
  refine it_range1 rfl b_range rfl ?_
  walk_at "zv"
  refine wc_lenL (sq_own (ds := xs) (by rw [put_ne hpq]; exact put_same)) ?_
  refine wa_nil ⟨_, rfl, by omega, by omega, ?_⟩
  refine ⟨fun i Γ' O' => ∃ (g : Option D) (rs fs : List D), Γ' = [some .box, some d, some (.own p), some (.own q), g] ∧ O' = put (put O p (.lst rs)) q (.lst fs) ∧ (rs ++ fs).Perm xs ∧ rs.length + i = xs.length, ⟨_, xs, [], rfl, rfl, by rw [List.append_nil], rfl⟩, ?_, ?_⟩
  · rintro i dd Γ' O' hd2 ⟨g, rs, fs, rfl, rfl, hpm, hlen⟩
    have hi := (List.getElem?_eq_some_iff.mp hd2).1
    rw [rngD_len] at hi
    have hi2 : i < xs.length := by omega
    have hrs : 0 < rs.length := by omega
    have hfs : fs.length ≤ xs.length := by
      have := hpm.length_eq
      rw [List.length_append] at this
      omega
    have gp : put (put O p (.lst rs)) q (.lst fs) p = some (.lst rs) := by rw [put_ne hpq]; exact put_same
    walk_at "zv"
    ((with_reducible refine' we_bm (T := "list") (id := "list.append") PySem.F.plainAttrs_list PySem.F.slot_list_append PySem.F.type_list_append ?b ?c ?d ?e ?f ?_); (case b => rfl); (case c => rfl); (case d => rfl); (case e => rfl); (case f => rfl))
    walk_at "zv"
    refine tym_own put_same ?_
    refine wa_cons rfl ?_
    ((with_reducible refine' we_bm (T := "list") (id := "list.pop") PySem.F.plainAttrs_list PySem.F.slot_list_pop PySem.F.type_list_pop ?b ?c ?d ?e ?f ?_); (case b => rfl); (case c => rfl); (case d => rfl); (case e => rfl); (case f => rfl))
    walk_at "zv"
    refine tym_own gp ?_
    walk_at "zv"
    rename_i r r0 r1
    have hlt : r.toNat < rs.length := by omega
    refine wm_popAt gp (by omega) (by omega) (seq_in r0 r1) (List.getElem?_eq_getElem hlt) ?_
    rw [put_swap hpq]
    refine wa_nil (wm_append put_same (by rw [sizeLine_eq]; omega) ?_)
    rw [put_put]
    refine ⟨_, _, _, rfl, rfl, perm_pop hpm (List.getElem?_eq_getElem hlt), ?_⟩
    rw [List.length_eraseIdx, if_pos hlt]
    omega
  · rintro Γ' O' ⟨g, rs, fs, rfl, rfl, hpm, hlen⟩
    rw [rngD_len] at hlen
    have e : rs = [] := List.eq_nil_of_length_eq_zero (by omega)
    subst e
    walk_at "zv"
    refine .frz put_same ?_ (hk fs (by rwa [List.nil_append] at hpm))
    rw [del_put (by rw [put_ne (Ne.symm hpq)]; exact hOq)]
    exact Sub.put hp

/-! ### names -/
abbrev s__law_names : Stmt := top 41
abbrev n__law_names : List Str := ["_law_box_here", "_law_many", "_law_kept", "_law_letters", "_law_form", "_law_spot", "_law_k"]
abbrev p__law_names : List Str := ["_law_box_here", "_law_many"]
theorem sc__law_names : FnScope n__law_names p__law_names (defScope s__law_names) := ⟨rfl, rfl, rfl, by decide +kernel, rfl, by decide +kernel, by decide +kernel⟩
abbrev keptL : List Str := ["pick", "fill", "trim", "text", "home", "far", "a", "ab", "zzzz", "n", "cuts", "undo"]
def keptF (i : Int) : Str := keptL.getD i.toNat ""
def letF (i : Int) : Str := ⟨#[lowS.cps.toList.getD i.toNat 0]⟩
def nm0 (s : Int) (n : Nat) : List Str := (List.range n).map fun k => keptF ((s + 5 * (0 + (k : Nat))) % 12)
def nm1 (n : Nat) : List Str := (List.range n).map fun k => cutS "nnnn" none (some (0 + (k : Nat) + 1))
def nm2 (s : Int) (n : Nat) : List Str := (List.range n).map fun k => letF ((s + 7 * (0 + (k : Nat))) % 26) ++ timesS "q" (s % 4).toNat
def okNm (n : Nat) (ns : List Str) : Bool := decide (ns.length = n) && (decide ns.Nodup && ns.all fun z => nameB z && (decide (z.length ≤ 4) && decide (z ≠ "zz")))
theorem ok0 : ((List.range 26).all fun s => (List.range 5).all fun n => okNm n (nm0 (s : Nat) n)) = true := by decide +kernel
theorem ok1 : ((List.range 5).all fun n => okNm n (nm1 n)) = true := by decide +kernel
theorem ok2 : ((List.range 26).all fun s => (List.range 5).all fun n => okNm n (nm2 (s : Nat) n)) = true := by decide +kernel
/-- names as the law draws them -/
structure NmOk (n : Nat) (ns : List Str) : Prop where
  len : ns.length = n
  nd : ns.Nodup
  nm : ∀ z ∈ ns, nameB z = true ∧ z.length ≤ 4 ∧ z ≠ "zz"
theorem okNm_iff {n : Nat} {ns : List Str} (h : okNm n ns = true) : NmOk n ns := by
  unfold okNm at h
  simp only [Bool.and_eq_true, decide_eq_true_eq, List.all_eq_true] at h
  exact ⟨h.1, h.2.1, h.2.2⟩
theorem nm_ok {f : Int → Nat → List Str} (h : ((List.range 26).all fun s => (List.range 5).all fun n => okNm n (f (s : Nat) n)) = true) {s : Int} {n : Nat} (h0 : 0 ≤ s) (h1 : s < 26) (hn : n < 5) : NmOk n (f s n) := by
  obtain ⟨m,
      rfl⟩ := Int.eq_ofNat_of_zero_le h0
  have a := List.all_eq_true.mp h m (List.mem_range.mpr (by omega))
  exact okNm_iff (List.all_eq_true.mp a n (List.mem_range.mpr hn))
theorem kept_at {i : Int} (h0 : 0 ≤ i) (h1 : i < 12) : atI (keptL.map D.str) i = some (.str (keptF i)) := by
  obtain ⟨m,
      rfl⟩ := Int.eq_ofNat_of_zero_le h0
  refine atI_nat ?_
  have hm : m < 12 := by omega
  unfold keptF
  rw [List.getElem?_map, List.getD_eq_getElem?_getD, Int.toNat_natCast, List.getElem?_eq_getElem (show m < keptL.length from hm)]
  rfl
theorem let_at {i : Int} (h0 : 0 ≤ i) (h1 : i < 26) : atI lowS.cps.toList i = some (lowS.cps.toList.getD i.toNat 0) := by
  obtain ⟨m,
      rfl⟩ := Int.eq_ofNat_of_zero_le h0
  refine atI_nat ?_
  have hm : m < lowS.cps.toList.length := by
    have e : lowS.cps.toList.length = 26 := by decide +kernel
    omega
  rw [List.getD_eq_getElem?_getD, Int.toNat_natCast, List.getElem?_eq_getElem hm]
  rfl
theorem perm_strs {ys : List D} {l : List Str} (h : ys.Perm (l.map D.str)) : ∃ ns : List Str, ys = ns.map D.str ∧ ns.Perm l := by
  have hs : ∀ y ∈ ys, ∃ z : Str, y = .str z := fun y hy => by
    obtain ⟨z, _, rfl⟩ := List.mem_map.mp (h.mem_iff.mp hy)
    exact ⟨z, rfl⟩
  have back : ∀ m : List D, (∀ y ∈ m, ∃ z : Str, y = .str z) → ∃ ns : List Str, m = ns.map D.str := fun m => by
    induction m with
    | nil => exact fun _ => ⟨[], rfl⟩
    | cons a m ih =>
      intro hm
      obtain ⟨z, rfl⟩ := hm a List.mem_cons_self
      obtain ⟨ns, rfl⟩ := ih fun y hy => hm y (List.mem_cons_of_mem _ hy)
      exact ⟨z :: ns, rfl⟩
  obtain ⟨ns, rfl⟩ := back ys hs
  refine ⟨ns, rfl, ?_⟩
  have h2 := h.map fun d : D => match d with
    | .str z => z
    | _ => ""
  rw [List.map_map, List.map_map] at h2
  have e : ∀ l : List Str, l.map ((fun d : D => match d with
    | .str z => z
    | _ => "") ∘ D.str) = l := fun l => List.map_id l
  rwa [e, e] at h2
def sNames : SpD := fun ds O k _ => ∃ n : Nat, ds = [.box, .int (n : Int)] ∧ 0 < n ∧ n < 5 ∧ ∀ ns, NmOk n ns → k (.lst (ns.map .str)) O
theorem pm_names (Dd : Df K mg "_law_names" s__law_names p__law_names) (h_take : Pm P w K mg base "_law_take" 1 sTake) (h_shuf : Pm P w K mg base "_law_shuffled" 2 sShuf) (b_int : mg "int" = none) (b_range : mg "range" = none) : Pm P w K mg base "_law_names" 3 sNames := by
  refine Pm.of Dd sc__law_names (fun ds O k kx h => by obtain ⟨_, h, _⟩ := h; rw [h]; rfl) (fun f cdv A outer s H E hg hr ds O k kx hS => ?_)
  obtain ⟨n, rfl, n0, n5, hk⟩ := hS
  generalize hbb : defBody s__law_names = bb
  refine with_va (x := "_law_box_here") (i := 0) ⟨rfl, by walk_at "vis", by decide, by decide⟩ fun va0 => ?_
  refine with_va (x := "_law_many") (i := 1) ⟨rfl, by walk_at "vis", by decide, by decide⟩ fun va1 => ?_
  refine with_va (x := "_law_kept") (i := 2) ⟨rfl, by walk_at "vis", by decide, by decide⟩ fun va2 => ?_
  refine with_va (x := "_law_letters") (i := 3) ⟨rfl, by walk_at "vis", by decide, by decide⟩ fun va3 => ?_
  refine with_va (x := "_law_form") (i := 4) ⟨rfl, by walk_at "vis", by decide, by decide⟩ fun va4 => ?_
  refine with_va (x := "_law_spot") (i := 5) ⟨rfl, by walk_at "vis", by decide, by decide⟩ fun va5 => ?_
  refine with_vs (x := "_law_kept") (i := 2) ⟨sc__law_names.nd, rfl, by walk_at "loc", .inl rfl⟩ fun vs2 => ?_
  refine with_vs (x := "_law_letters") (i := 3) ⟨sc__law_names.nd, rfl, by walk_at "loc", .inl rfl⟩ fun vs3 => ?_
  refine with_vs (x := "_law_form") (i := 4) ⟨sc__law_names.nd, rfl, by walk_at "loc", .inl rfl⟩ fun vs4 => ?_
  refine with_vs (x := "_law_spot") (i := 5) ⟨sc__law_names.nd, rfl, by walk_at "loc", .inl rfl⟩ fun vs5 => ?_
  refine with_kn (h_take.kn rfl rfl rfl rfl rfl rfl (by decide)) fun kn_take => ?_
  refine with_kn (h_shuf.kn rfl rfl rfl rfl rfl rfl (by decide)) fun kn_shuf => ?_
  subst hbb
  walk_at "body"
  walk_at "zvl"
  · rename_i q q0 q1 s s0 s1 _
    refine we_lc [("_law_k", 6)] (.nm 6) rfl sc__law_names.nd rfl (.inl rfl) (fun _ => rfl) (fun s0 H0 C0 cl0 fp0 => pg_name (i := 6) sc__law_names.nd rfl (Or.inl rfl) (Or.inr rfl)) (by decide) ?_
    refine it_range1 rfl b_range rfl ?_
    walk_at "zv"
    rw [Int.toNat_natCast]
    refine lc_mapL (List.range n) (fun i => .int (0 + (i : Nat))) (fun k => .str (keptF ((s + 5 * (0 + (k : Nat))) % 12))) (by rw [List.length_range]; omega) (fun i hi O2 ag => ⟨_, rfl, fun s0 H0 C0 cl0 fp0 => ?_⟩) ?_
    · refine e_va (x := "_law_k") (i := 6) ⟨rfl, by walk_at "vis", by decide, by decide⟩ fun va6 => ?_
      refine e_va (x := "_law_kept") (i := 2) ⟨rfl, by walk_at "vis", by decide, by decide⟩ fun va2 => ?_
      refine e_va (x := "_law_spot") (i := 5) ⟨rfl, by walk_at "vis", by decide, by decide⟩ fun va5 => ?_
      refine e_bt (x := "int") (T := "int") ⟨rfl, b_int, by decide +kernel, by decide, by decide⟩ fun bt_int => ?_
      walk_at "zv"
      exact wi_list sq_lst (kept_at (Int.emod_nonneg _ (by decide)) (Int.emod_lt_of_pos _ (by decide))) ⟨rfl, rfl⟩
    · have e : (List.range n).map (fun k => D.str (keptF ((s + 5 * (0 + (k : Nat))) % 12))) = (nm0 s n).map D.str := by
        unfold nm0
        rw [List.map_map]
        rfl
      rw [e]
      exact Ret.of (hk _ (nm_ok ok0 s0 s1 n5))
  · refine we_lc [("_law_k", 6)] (.nm 6) rfl sc__law_names.nd rfl (.inl rfl) (fun _ => rfl) (fun s0 H0 C0 cl0 fp0 => pg_name (i := 6) sc__law_names.nd rfl (Or.inl rfl) (Or.inr rfl)) (by decide) ?_
    refine it_range1 rfl b_range rfl ?_
    walk_at "zv"
    rw [Int.toNat_natCast]
    refine lc_mapL (List.range n) (fun i => .int (0 + (i : Nat))) (fun k => .str (cutS "nnnn" none (some (0 + (k : Nat) + 1)))) (by rw [List.length_range]; omega) (fun i hi O2 ag => ⟨_, rfl, fun s0 H0 C0 cl0 fp0 => ?_⟩) ?_
    · refine e_va (x := "_law_k") (i := 6) ⟨rfl, by walk_at "vis", by decide, by decide⟩ fun va6 => ?_
      walk_at "zv"
      exact wsl_str (by decide +kernel) ⟨rfl, rfl⟩
    · have e : (List.range n).map (fun k => D.str (cutS "nnnn" none (some (0 + (k : Nat) + 1)))) = (nm1 n).map D.str := by
        unfold nm1
        rw [List.map_map]
        rfl
      rw [e]
      have hok := okNm_iff (List.all_eq_true.mp ok1 n (List.mem_range.mpr n5))
      refine wa_nil ⟨_, _, rfl, sq_lst, by rw [List.length_map, hok.len]; omega, fun ys hys => ?_⟩
      obtain ⟨ns, rfl, hp⟩ : ∃ ns : List Str, ys = ns.map D.str ∧ ns.Perm (nm1 n) := perm_strs hys
      exact Ret.of (hk ns ⟨hp.length_eq.trans hok.len, hp.nodup_iff.mpr hok.nd, fun z hz => hok.nm z (hp.mem_iff.mp hz)⟩)
  all_goals try (exfalso; omega)
  · rename_i q q0 q1 s s0 s1 _ _
    refine we_lc [("_law_k", 6)] (.nm 6) rfl sc__law_names.nd rfl (.inl rfl) (fun _ => rfl) (fun s0 H0 C0 cl0 fp0 => pg_name (i := 6) sc__law_names.nd rfl (Or.inl rfl) (Or.inr rfl)) (by decide) ?_
    refine it_range1 rfl b_range rfl ?_
    walk_at "zv"
    rw [Int.toNat_natCast]
    refine lc_mapL (List.range n) (fun i => .int (0 + (i : Nat))) (fun k => .str (letF ((s + 7 * (0 + (k : Nat))) % 26) ++ timesS "q" (s % 4).toNat)) (by rw [List.length_range]; omega) (fun i hi O2 ag => ⟨_, rfl, fun s0 H0 C0 cl0 fp0 => ?_⟩) ?_
    · refine e_va (x := "_law_k") (i := 6) ⟨rfl, by walk_at "vis", by decide, by decide⟩ fun va6 => ?_
      refine e_va (x := "_law_letters") (i := 3) ⟨rfl, by walk_at "vis", by decide, by decide⟩ fun va3 => ?_
      refine e_va (x := "_law_spot") (i := 5) ⟨rfl, by walk_at "vis", by decide, by decide⟩ fun va5 => ?_
      refine e_bt (x := "int") (T := "int") ⟨rfl, b_int, by decide +kernel, by decide, by decide⟩ fun bt_int => ?_
      walk_at "zv"
      refine wi_str (by decide +kernel) (let_at (Int.emod_nonneg _ (by decide)) (Int.emod_lt_of_pos _ (by decide))) ?_
      walk_at "zv"
      have e4 : s % 4 = ((s % 4).toNat : Int) := by omega
      rw [e4]
      refine wo_mulS (by omega) (by decide +kernel) (by decide +kernel) ?_
      have lq : (timesS "q" (s % 4).toNat).length ≤ 3 := by
        have h4 : (s % 4).toNat = 0 ∨ (s % 4).toNat = 1 ∨ (s % 4).toNat = 2 ∨ (s % 4).toNat = 3 := by omega
        rcases h4 with h | h | h | h <;> rw [h] <;> decide +kernel
      refine wo_addS (by rw [sizeLine_eq]; show 1 + _ ≤ _; omega) ⟨rfl, rfl⟩
    · have e : (List.range n).map (fun k => D.str (letF ((s + 7 * (0 + (k : Nat))) % 26) ++ timesS "q" (s % 4).toNat)) = (nm2 s n).map D.str := by
        unfold nm2
        rw [List.map_map]
        rfl
      rw [e]
      exact Ret.of (hk _ (nm_ok ok2 s0 s1 n5))
/-! ### columns and rows as the law draws them -/
abbrev s__law_columns : Stmt := top 46
abbrev n__law_columns : List Str := ["_law_box_here", "_law_many", "_law_name"]
abbrev p__law_columns : List Str := ["_law_box_here", "_law_many"]
theorem sc__law_columns : FnScope n__law_columns p__law_columns (defScope s__law_columns) := ⟨rfl, rfl, rfl, by decide +kernel, rfl, by decide +kernel, by decide +kernel⟩
abbrev s__law_row : Stmt := top 47
abbrev n__law_row : List Str := ["_law_box_here", "_law_columns_here", "_law_name", "_law_sort"]
abbrev p__law_row : List Str := ["_law_box_here", "_law_columns_here"]
theorem sc__law_row : FnScope n__law_row p__law_row (defScope s__law_row) := ⟨rfl, rfl, rfl, by decide +kernel, rfl, by decide +kernel, by decide +kernel⟩
abbrev s__law_rows : Stmt := top 48
abbrev n__law_rows : List Str := ["_law_box_here", "_law_columns_here", "_law_most", "_law_found", "_law_turn", "_law_again"]
abbrev p__law_rows : List Str := ["_law_box_here", "_law_columns_here", "_law_most"]
theorem sc__law_rows : FnScope n__law_rows p__law_rows (defScope s__law_rows) := ⟨rfl, rfl, rfl, by decide +kernel, rfl, by decide +kernel, by decide +kernel⟩
theorem col_cs : ∀ {ns : List Str} {acc : List D}, All2 (fun z y => ∃ s, y = colD (z, s) ∧ (s = "text" ∨ s = "number")) ns acc → ∃ cs : List Col, acc = cs.map colD ∧ cs.map (·.1) = ns ∧ ∀ c ∈ cs, c.2 = "text" ∨ c.2 = "number"
  | [], _, h => ⟨[], h.nil, rfl, fun c hc => (by cases hc)⟩
  | z :: ns, _, h => by
    obtain ⟨y, es, rfl, ⟨s, rfl, hs⟩, h2⟩ := h.cons
    obtain ⟨cs, rfl, e, g⟩ := col_cs h2
    refine ⟨(z, s) :: cs, rfl, by rw [List.map_cons, e], fun c hc => ?_⟩
    rcases List.mem_cons.mp
        hc with rfl | hc
    · exact hs
    · exact g c hc
theorem names_w2 (cs : List Col) : namesOf (cs.map w2) = cs.map (·.1) := by
  unfold namesOf
  rw [List.map_map]
  rfl
theorem cok_of {n : Nat} {ns : List Str} {cs : List Col} (h0 : 0 < n) (h5 : n < 5) (hn : NmOk n ns) (e : cs.map (·.1) = ns) (hs : ∀ c ∈ cs, c.2 = "text" ∨ c.2 = "number") : COk cs := by
  have hl : cs.length = n := by rw [← hn.len, ← e, List.length_map]
  have nm : ∀ c ∈ cs, nameB c.1 = true ∧ c.1.length ≤ 4 := fun c hc => ⟨(hn.nm c.1 (by rw [← e]; exact List.mem_map.mpr ⟨c, hc, rfl⟩)).1, (hn.nm c.1 (by rw [← e]; exact List.mem_map.mpr ⟨c, hc, rfl⟩)).2.1⟩
  have st : ∀ s : Str, s = "text" ∨ s = "number" → sortB s = true ∧ s.length ≤ 6 := fun s h => by
    rcases h with rfl | rfl
    · exact ⟨by decide +kernel, by decide +kernel⟩
    · exact ⟨by decide +kernel, by decide +kernel⟩
  refine ⟨?_, by omega, fun c hc => ⟨by have := (nm c hc).2; omega, by have := (st _ (hs c hc)).2; omega⟩⟩
  unfold colsB
  have ne : cs.map w2 ≠ [] := fun z => by
    rw [List.map_eq_nil_iff.mp z] at hl
    simp at hl
    omega
  have all : (cs.map w2).all colB = true := List.all_eq_true.mpr fun ws hw => by
    obtain ⟨c, hc, rfl⟩ := List.mem_map.mp hw
    unfold w2
    rw [colB_two, (nm c hc).1, (st _ (hs c hc)).1]
    rfl
  rw [decide_eq_true ne, all, names_w2, e, decide_eq_true hn.nd]
  rfl
local macro_rules | `(tactic| walk_at "zv") => `(tactic| repeat' (walk_at "z1"))
def sColumns : SpD := fun ds O k _ => ∃ n : Nat, ds = [.box, .int (n : Int)] ∧ 0 < n ∧ n < 5 ∧ ∀ cs, COk cs → cs.length = n → (∀ c ∈ cs, c.1 ≠ "zz" ∧ (c.2 = "text" ∨ c.2 = "number")) → k (.lst (cs.map colD)) O
theorem pm_columns (Dd : Df K mg "_law_columns" s__law_columns p__law_columns) (h_names : Pm P w K mg base "_law_names" 3 sNames) (h_pick : Pm P w K mg base "_law_pick" 2 sPick) : Pm P w K mg base "_law_columns" 4 sColumns := by
  refine Pm.of Dd sc__law_columns (fun ds O k kx h => by obtain ⟨_, h, _⟩ := h; rw [h]; rfl) (fun f cdv A outer s H E hg hr ds O k kx hS => ?_)
  obtain ⟨n, rfl, n0, n5, hk⟩ := hS
  refine with_va (x := "_law_box_here") (i := 0) ⟨rfl, by walk_at "vis", by decide, by decide⟩ fun va0 => ?_
  refine with_va (x := "_law_many") (i := 1) ⟨rfl, by walk_at "vis", by decide, by decide⟩ fun va1 => ?_
  refine with_kn (h_names.kn rfl rfl rfl rfl rfl rfl (by decide)) fun kn_names => ?_
  walk_at "body"
  walk_at "zv"
  refine we_lc [("_law_name", 2)] (.nm 2) rfl sc__law_columns.nd rfl (.inl rfl) (fun _ => rfl) (fun s0 H0 C0 cl0 fp0 => pg_name (i := 2) sc__law_columns.nd rfl (Or.inl rfl) (Or.inr rfl)) (by decide) ?_
  refine it_list ?_
  walk_at "zv"
  refine ⟨n, rfl, n0, n5, fun ns hn => ⟨_, .inl rfl, ?_⟩⟩
  refine lc_anyL ns D.str (fun z y => ∃ s, y = colD (z, s) ∧ (s = "text" ∨ s = "number")) (by rw [hn.len]; omega) (fun z hz O2 ag => ⟨_, rfl, fun s0 H0 C0 cl0 fp0 => ?_⟩) fun acc ha => ?_
  · refine e_va (x := "_law_name") (i := 2) ⟨rfl, by walk_at "vis", by decide, by decide⟩ fun va2 => ?_
    refine e_va (x := "_law_box_here") (i := 0) ⟨rfl, by walk_at "vis", by decide, by decide⟩ fun va0 => ?_
    refine e_kn (h_pick.kn rfl rfl rfl rfl rfl rfl (by decide)) fun kn_pick => ?_
    walk_at "zvl"
    · rename_i y hy
      refine ⟨rfl, y, rfl, ?_⟩
      rcases hy with h | h | h
      · exact .inl h
      · exact .inl h
      · exact .inr h
  · obtain ⟨cs, rfl, e, hs⟩ := col_cs ha
    exact Ret.of (hk cs (cok_of n0 n5 hn e hs) (by rw [← hn.len, ← e, List.length_map]) fun c hc => ⟨(hn.nm c.1 (by rw [← e]; exact List.mem_map.mpr ⟨c, hc, rfl⟩)).2.2, hs c hc⟩)
theorem row_of : ∀ {cs : List Col} {acc : List D}, All2 (fun (c : Col) y => CellOk c.2 y) cs acc → RowOk cs acc
  | [], _, h => by
    rw [h.nil]
    exact ⟨rfl, fun p hp => (by cases hp)⟩
  | c :: cs, _, h => by
    obtain ⟨y, es, rfl, hy, h2⟩ := h.cons
    obtain ⟨g1, g2⟩ := row_of h2
    refine ⟨by rw [List.length_cons, g1, List.length_cons], fun p hp => ?_⟩
    rcases List.mem_cons.mp
        hp with rfl | hp
    · exact hy
    · exact g2 p hp
def sRow : SpD := fun ds O k _ => ∃ cs : List Col, ds = [.box, .lst (cs.map colD)] ∧ COk cs ∧ ∀ r, RowOk cs r → k (.tup r) O
theorem pm_row (Dd : Df K mg "_law_row" s__law_row p__law_row) (h_cell : Pm P w K mg base "_law_cell" 4 sCell) (b_tuple : mg "tuple" = none) : Pm P w K mg base "_law_row" 5 sRow := by
  refine Pm.of Dd sc__law_row (fun ds O k kx h => by obtain ⟨_, h, _⟩ := h; rw [h]; rfl) (fun f cdv A outer s H E hg hr ds O k kx hS => ?_)
  obtain ⟨cs, rfl, co, hk⟩ := hS
  refine with_va (x := "_law_box_here") (i := 0) ⟨rfl, by walk_at "vis", by decide, by decide⟩ fun va0 => ?_
  refine with_va (x := "_law_columns_here") (i := 1) ⟨rfl, by walk_at "vis", by decide, by decide⟩ fun va1 => ?_
  refine with_bt (x := "tuple") (T := "tuple") ⟨rfl, b_tuple, by decide +kernel, by decide, by decide⟩ fun bt_tuple => ?_
  walk_at "body"
  walk_at "zv"
  refine we_lc [("_law_name", 2), ("_law_sort", 3)] (.tup [.nm 2, .nm 3]) rfl sc__law_row.nd rfl (.inl rfl) (fun _ => rfl) (fun s0 H0 C0 cl0 fp0 => pg_tup rfl (pgs_cons (pg_name (i := 2) sc__law_row.nd rfl (Or.inl rfl) (Or.inr rfl)) (pgs_cons (pg_name (i := 3) sc__law_row.nd rfl (Or.inl rfl) (Or.inr rfl)) pgs_nil))) (by decide) ?_
  refine it_list ?_
  walk_at "zv"
  refine ⟨_, .inl rfl, ?_⟩
  refine lc_anyL cs colD (fun c y => CellOk c.2 y) (Nat.le_trans co.sz (by decide)) (fun c hc O2 ag => ⟨_, rfl, fun s0 H0 C0 cl0 fp0 => ?_⟩) fun acc ha => ?_
  · refine e_va (x := "_law_sort") (i := 3) ⟨rfl, by walk_at "vis", by decide, by decide⟩ fun va3 => ?_
    refine e_va (x := "_law_box_here") (i := 0) ⟨rfl, by walk_at "vis", by decide, by decide⟩ fun va0 => ?_
    refine e_kn (h_cell.kn rfl rfl rfl rfl rfl rfl (by decide)) fun kn_cell => ?_
    walk_at "zv"
    exact ⟨c.2, rfl, fun d hd => ⟨rfl, hd⟩⟩
  · walk_at "zv"
    exact wc_tupL sq_lst (Ret.of (hk acc (row_of ha)))
theorem shw_list {n m k : Nat} {ds : List D} (h : ∀ d ∈ ds, Shw d n m) : (D.lst ds).isPy = true ∧ (D.lst ds).py.canLay0 = true ∧ (D.lst ds).py.depth ≤ n + 1 := by
  obtain ⟨g1, g2, g3, g4, g5, g6⟩ := shw_pys h
  exact ⟨by rw [D.isPy]; exact g1, by rw [D.py, PyData.canLay0]; exact g3, by rw [D.py, PyData.depth]; omega⟩
section
variable {X : Cx} {O : Ow} {k : KD}
theorem wo_neNil {p : Addr} {cs : List Col} {rs : List (List D)} (ho : O p = some (.lst (rs.map .tup))) (hu : X.A.units + 64 < cLine) (hr : ∀ r ∈ rs, RowOk cs r) (hc : cs.length ≤ 10) (h : k (.bl (decide (rs ≠ []))) O) : WO X (compareOp .NotEq) (.own p) (.lst []) O k := by
  obtain ⟨g1, g2, g3⟩ := shw_list (k := 0) (ds := rs.map D.tup) (n := 1) (m := 1000) fun d hd => by
    obtain ⟨r, hr1, rfl⟩ := List.mem_map.mp hd
    exact shw_row (hr r hr1) hc
  refine wo_neO ho hu g1 rfl ?_ (by decide) (bl_eq ?_ h)
  · unfold SeqAt.shaped
    rw [g2, decide_eq_true (Nat.le_trans g3 (by decide))]
    rfl
  · cases rs with
    | nil => rfl
    | cons r rs => rfl
end
def sRows : SpD := fun ds O k _ => ∃ (cs : List Col) (m : Nat), ds = [.box, .lst (cs.map colD), .int (m : Int)] ∧ COk cs ∧ m ≤ 50 ∧ ∀ rs : List (List D), rs.length ≤ m → (∀ r ∈ rs, RowOk cs r) → k (.lst (rs.map .tup)) O
theorem pm_rows (Dd : Df K mg "_law_rows" s__law_rows p__law_rows) (h_take : Pm P w K mg base "_law_take" 1 sTake) (h_pick : Pm P w K mg base "_law_pick" 2 sPick) (h_row : Pm P w K mg base "_law_row" 5 sRow) (b_range : mg "range" = none) : Pm P w K mg base "_law_rows" 6 sRows := by
  refine Pm.of Dd sc__law_rows (fun ds O k kx h => by obtain ⟨_, _, h, _⟩ := h; rw [h]; rfl) (fun f cdv A outer s H E hg hr ds O k kx hS => ?_)
  obtain ⟨cs, m, rfl, co, hm, hk⟩ := hS
  refine with_va (x := "_law_box_here") (i := 0) ⟨rfl, by walk_at "vis", by decide, by decide⟩ fun va0 => ?_
  refine with_va (x := "_law_columns_here") (i := 1) ⟨rfl, by walk_at "vis", by decide, by decide⟩ fun va1 => ?_
  refine with_va (x := "_law_most") (i := 2) ⟨rfl, by walk_at "vis", by decide, by decide⟩ fun va2 => ?_
  refine with_va (x := "_law_found") (i := 3) ⟨rfl, by walk_at "vis", by decide, by decide⟩ fun va3 => ?_
  refine with_va (x := "_law_turn") (i := 4) ⟨rfl, by walk_at "vis", by decide, by decide⟩ fun va4 => ?_
  refine with_va (x := "_law_again") (i := 5) ⟨rfl, by walk_at "vis", by decide, by decide⟩ fun va5 => ?_
  refine with_vs (x := "_law_found") (i := 3) ⟨sc__law_rows.nd, rfl, by walk_at "loc", .inl rfl⟩ fun vs3 => ?_
  refine with_vs (x := "_law_turn") (i := 4) ⟨sc__law_rows.nd, rfl, by walk_at "loc", .inl rfl⟩ fun vs4 => ?_
  refine with_vs (x := "_law_again") (i := 5) ⟨sc__law_rows.nd, rfl, by walk_at "loc", .inl rfl⟩ fun vs5 => ?_
  refine with_kn (h_take.kn rfl rfl rfl rfl rfl rfl (by decide)) fun kn_take => ?_
  refine with_kn (h_pick.kn rfl rfl rfl rfl rfl rfl (by decide)) fun kn_pick => ?_
  refine with_kn (h_row.kn rfl rfl rfl rfl rfl rfl (by decide)) fun kn_row => ?_
  walk_at "body"
  walk_at "z1"
  walk_at "z1"
  (with_reducible refine' we_lstO ?_)
  refine wa_nil ⟨Nat.zero_le _, fun p hp => ?_⟩
  refine ws_cons (ws_for PassesOwn.never rfl (fun _ => rfl) ?_)
  refine it_range1 rfl b_range rfl ?_
  walk_at "zv"
  rename_i t t0 t1
  refine ⟨fun i Γ' O' => ∃ (g4 g5 : Option D) (rs : List (List D)), Γ' = [some .box, some (.lst (cs.map colD)), some (.int (m : Int)), some (.own p), g4, g5] ∧ O' = put O p (.lst (rs.map .tup)) ∧ rs.length = i ∧ ∀ r ∈ rs, RowOk cs r, ⟨_, _, [], rfl, rfl, rfl, fun r hr1 => (by cases hr1)⟩, ?_, ?_⟩
  · rintro i dd Γ' O' hd2 ⟨g4, g5, rs, rfl, rfl, hlen, hR⟩
    have hi := (List.getElem?_eq_some_iff.mp hd2).1
    rw [rngD_len] at hi
    have hrl : rs.length ≤ 50 := by omega
    walk_at "zv"
    refine we_lst (wa_nil ⟨Nat.zero_le _, ?_⟩)
    refine wo_neNil put_same hr.units hR co.sz ⟨_, rfl, ?_⟩
    have fin_row : ∀ d : D, (∃ r, d = .tup r ∧ RowOk cs r) → ∀ g4 g5 : Option D, ∃ (h4 h5 : Option D) (rs2 : List (List D)), ([some .box, some (.lst (cs.map colD)), some (.int (m : Int)), some (.own p), g4, g5] : Sg) = [some .box, some (.lst (cs.map colD)), some (.int (m : Int)), some (.own p), h4, h5] ∧ put O p (.lst (rs.map D.tup ++ [d])) = put O p (.lst (rs2.map .tup)) ∧ rs2.length = i + 1 ∧ ∀ r ∈ rs2, RowOk cs r := fun d ⟨r, e, hr1⟩ h4 h5 => by
      subst e
      refine ⟨h4, h5, rs ++ [r], rfl, by rw [List.map_append]; rfl, by rw [List.length_append, hlen]; rfl, fun q hq => ?_⟩
      rcases List.mem_append.mp
          hq with hq | hq
      · exact hR q hq
      · rw [List.mem_singleton.mp
            hq]
        exact hr1
    have hsz : (rs.map D.tup).length < sizeLine := by rw [List.length_map, sizeLine_eq]; omega
    by_cases hne : rs = []
    · rw [decide_eq_false (fun z => z hne)]
      walk_at "zv"
      ((with_reducible refine' we_bm (T := "list") (id := "list.append") PySem.F.plainAttrs_list PySem.F.slot_list_append PySem.F.type_list_append ?b ?c ?d ?e ?f ?_); (case b => rfl); (case c => rfl); (case d => rfl); (case e => rfl); (case f => rfl))
      walk_at "zv"
      refine tym_own put_same ?_
      walk_at "zv"
      refine ⟨cs, rfl, co, fun r hr1 => ?_⟩
      refine wa_nil (wm_append put_same hsz ?_)
      rw [put_put]
      exact fin_row _ ⟨r, rfl, hr1⟩ _ _
    · rw [decide_eq_true hne]
      have hpos : 0 < rs.length := by
        cases rs with
        | nil => exact absurd rfl hne
        | cons a b => exact Nat.succ_pos _
      walk_at "zv"
      ((with_reducible refine' we_bm (T := "list") (id := "list.append") PySem.F.plainAttrs_list PySem.F.slot_list_append PySem.F.type_list_append ?b ?c ?d ?e ?f ?_); (case b => rfl); (case c => rfl); (case d => rfl); (case e => rfl); (case f => rfl))
      walk_at "zv"
      refine tym_own put_same ?_
      walk_at "zv"
      · refine sPick_l (sq_own put_same) ⟨by rw [List.length_map]; exact hpos, by rw [List.length_map]; omega⟩ fun e he => ?_
        obtain ⟨r, hr1, rfl⟩ := List.mem_map.mp he
        refine wa_nil (wm_append put_same hsz ?_)
        rw [put_put]
        exact fin_row _ ⟨r, rfl, hR r hr1⟩ _ _
      · refine ⟨cs, rfl, co, fun r hr1 => ?_⟩
        refine wa_nil (wm_append put_same hsz ?_)
        rw [put_put]
        exact fin_row _ ⟨r, rfl, hr1⟩ _ _
  · rintro Γ' O' ⟨g4, g5, rs, rfl, rfl, hlen, hR⟩
    rw [rngD_len] at hlen
    walk_at "zv"
    exact Ret.fzp hp (hk rs (by omega) hR)
/-! ### the law's own texts -/
abbrev s__law_cell_text : Stmt := top 49
abbrev n__law_cell_text : List Str := ["_law_cell_here"]
abbrev p__law_cell_text : List Str := ["_law_cell_here"]
theorem sc__law_cell_text : FnScope n__law_cell_text p__law_cell_text (defScope s__law_cell_text) := ⟨rfl, rfl, rfl, by decide +kernel, rfl, by decide +kernel, by decide +kernel⟩
abbrev s__law_line_of : Stmt := top 50
abbrev n__law_line_of : List Str := ["_law_columns_here", "_law_name", "_law_sort"]
abbrev p__law_line_of : List Str := ["_law_columns_here"]
theorem sc__law_line_of : FnScope n__law_line_of p__law_line_of (defScope s__law_line_of) := ⟨rfl, rfl, rfl, by decide +kernel, rfl, by decide +kernel, by decide +kernel⟩
abbrev s__law_table_text : Stmt := top 51
abbrev n__law_table_text : List Str := ["_law_columns_here", "_law_rows_here", "_law_row_here", "_law_cell_here"]
abbrev p__law_table_text : List Str := ["_law_columns_here", "_law_rows_here"]
theorem sc__law_table_text : FnScope n__law_table_text p__law_table_text (defScope s__law_table_text) := ⟨rfl, rfl, rfl, by decide +kernel, rfl, by decide +kernel, by decide +kernel⟩
theorem quo_law (z : Str) : ("\"" ++ z ++ "\"" : Str) = "\"" ++ z ++ "\"" := rfl
local macro_rules | `(tactic| walk_at "t1") => `(tactic| first
  | ((with_reducible refine' wc_strI ?h ?_); (case h => assumption))
  | walk_at "s1")
local macro_rules | `(tactic| walk_at "tv") => `(tactic| repeat' (walk_at "t1"))
def sLCellTxt : SpD := fun ds O k _ => ∃ (d : D) (s : Str), ds = [d] ∧ CellOk s d ∧ k (.str (cellS d)) O
theorem pm_lcellTxt (Dd : Df K mg "_law_cell_text" s__law_cell_text p__law_cell_text) (b_isi : mg "isinstance" = none) (b_str : mg "str" = none) : Pm P w K mg base "_law_cell_text" 1 sLCellTxt := by
  refine Pm.of Dd sc__law_cell_text (fun ds O k kx h => by obtain ⟨_, _, h, _⟩ := h; rw [h]; rfl) (fun f cdv A outer s H E hg hr ds O k kx hS => ?_)
  obtain ⟨d, so, rfl, hc, hk⟩ := hS
  rcases hc with rfl | ⟨rfl, z, rfl, hz, ht⟩ | ⟨hs, n, rfl, hn⟩
  all_goals
    refine with_va (x := "_law_cell_here") (i := 0) ⟨rfl, by walk_at "vis", by decide, by decide⟩ fun va0 => ?_
    refine with_bn (x := "isinstance") (id := "isinstance") ⟨rfl, b_isi, by decide +kernel, by decide, by decide⟩ fun bn_isi => ?_
    refine with_bt (x := "str") (T := "str") ⟨rfl, b_str, by decide +kernel, by decide, by decide⟩ fun bt_str => ?_
    walk_at "body"
  · walk_at "tv"
    exact Ret.of hk
  · have hz10 := (txt_as ht).2
    have q : ("\"" : Str).length = 1 := rfl
    walk_at "tv"
    refine wo_addS (by rw [q, sizeLine_eq]; omega) ?_
    walk_at "tv"
    refine wo_addS (by rw [len_add, q, sizeLine_eq]; omega) ?_
    exact Ret.of hk
  · have hlog := small_log hn
    walk_at "tv"
    exact Ret.of hk
def sLineOf : SpD := fun ds O k _ => ∃ cs : List Col, ds = [.lst (cs.map colD)] ∧ COk cs ∧ k (.str (colsS cs)) O
theorem pm_lineOf (Dd : Df K mg "_law_line_of" s__law_line_of p__law_line_of) : Pm P w K mg base "_law_line_of" 1 sLineOf := by
  refine Pm.of Dd sc__law_line_of (fun ds O k kx h => by obtain ⟨_, h, _⟩ := h; rw [h]; rfl) (fun f cdv A outer s H E hg hr ds O k kx hS => ?_)
  obtain ⟨cs, rfl, co, hk⟩ := hS
  refine with_va (x := "_law_columns_here") (i := 0) ⟨rfl, by walk_at "vis", by decide, by decide⟩ fun va0 => ?_
  walk_at "body"
  walk_at "tv"
  refine we_lc [("_law_name", 1), ("_law_sort", 2)] (.tup [.nm 1, .nm 2]) rfl sc__law_line_of.nd rfl (.inl rfl) (fun _ => rfl) (fun s0 H0 C0 cl0 fp0 => pg_tup rfl (pgs_cons (pg_name (i := 1) sc__law_line_of.nd rfl (Or.inl rfl) (Or.inr rfl)) (pgs_cons (pg_name (i := 2) sc__law_line_of.nd rfl (Or.inl rfl) (Or.inr rfl)) pgs_nil))) (by decide) ?_
  refine it_list ?_
  walk_at "tv"
  refine ⟨_, .inl rfl, ?_⟩
  refine lc_mapL cs colD (fun c => .str (colS c)) (Nat.le_trans co.sz (by decide)) (fun c hc O2 ag => ⟨_, rfl, fun s0 H0 C0 cl0 fp0 => ?_⟩) ?_
  · refine e_va (x := "_law_name") (i := 1) ⟨rfl, by walk_at "vis", by decide, by decide⟩ fun va1 => ?_
    refine e_va (x := "_law_sort") (i := 2) ⟨rfl, by walk_at "vis", by decide, by decide⟩ fun va2 => ?_
    obtain ⟨l1, l2⟩ := co.wd c hc
    have q : (" " : Str).length = 1 := rfl
    walk_at "tv"
    refine wo_addS (by rw [q, sizeLine_eq]; omega) ?_
    walk_at "tv"
    refine wo_addS (by rw [len_add, q, sizeLine_eq]; omega) ?_
    exact ⟨rfl, rfl⟩
  · refine wa_nil (wm_join (ys := cs.map colS) (.inl (by rw [List.map_map]; rfl)) (join_room (m := 2001) (fun y hy => ?_) ?_) (Ret.of hk))
    · obtain ⟨c, hc, rfl⟩ := List.mem_map.mp hy
      exact colS_len co hc
    · rw [List.length_map]
      have e2 : (Str.ofString ", ").length = 2 := rfl
      have := co.sz
      rw [e2]
      omega
def sTableText : SpD := fun ds O k _ => ∃ (cs : List Col) (rs : List (List D)), ds = [.lst (cs.map colD), .lst (rs.map .tup)] ∧ TbOk cs rs ∧ k (.str (tabS cs rs)) O
theorem pm_tableText (Dd : Df K mg "_law_table_text" s__law_table_text p__law_table_text) (h_line : Pm P w K mg base "_law_line_of" 1 sLineOf) (h_cell : Pm P w K mg base "_law_cell_text" 1 sLCellTxt) : Pm P w K mg base "_law_table_text" 2 sTableText := by
  refine Pm.of Dd sc__law_table_text (fun ds O k kx h => by obtain ⟨_, _, h, _⟩ := h; rw [h]; rfl) (fun f cdv A outer s H E hg hr ds O k kx hS => ?_)
  obtain ⟨cs, rs, rfl, ⟨co, hz, hrow⟩, hk⟩ := hS
  refine with_va (x := "_law_columns_here") (i := 0) ⟨rfl, by walk_at "vis", by decide, by decide⟩ fun va0 => ?_
  refine with_va (x := "_law_rows_here") (i := 1) ⟨rfl, by walk_at "vis", by decide, by decide⟩ fun va1 => ?_
  refine with_kn (h_line.kn rfl rfl rfl rfl rfl rfl (by decide)) fun kn_line => ?_
  walk_at "body"
  walk_at "tv"
  refine we_lst ?_
  walk_at "tv"
  refine ⟨cs, rfl, co, ?_⟩
  walk_at "tv"
  refine we_lc [("_law_row_here", 2)] (.nm 2) rfl sc__law_table_text.nd rfl (.inl rfl) (fun _ => rfl) (fun s0 H0 C0 cl0 fp0 => pg_name (i := 2) sc__law_table_text.nd rfl (Or.inl rfl) (Or.inr rfl)) (by decide) ?_
  refine it_list ?_
  walk_at "tv"
  refine ⟨_, .inl rfl, ?_⟩
  refine lc_mapL rs D.tup (fun r => .str (rowS r)) (Nat.le_trans hz (by decide)) (fun r hr1 O2 ag => ⟨_, rfl, fun s0 H0 C0 cl0 fp0 => ?_⟩) ?_
  · have hR := hrow r hr1
    have hcz := co.sz
    have hl := hR.1
    refine e_va (x := "_law_row_here") (i := 2) ⟨rfl, by walk_at "vis", by decide, by decide⟩ fun va2 => ?_
    walk_at "tv"
    refine we_lc [("_law_cell_here", 3)] (.nm 3) rfl sc__law_table_text.nd rfl (.inl rfl) (fun _ => rfl) (fun s1 H1 C1 cl1 fp1 => pg_name (i := 3) sc__law_table_text.nd rfl (Or.inl rfl) (Or.inr rfl)) (by decide) ?_
    refine it_tup ?_
    walk_at "tv"
    have e : r = r.map id := (List.map_id r).symm
    rw [e]
    refine lc_mapL r id (fun d => .str (cellS d)) (by omega) (fun d hd O3 ag3 => ⟨_, rfl, fun s1 H1 C1 cl1 fp1 => ?_⟩) ?_
    · refine e_va (x := "_law_cell_here") (i := 3) ⟨rfl, by walk_at "vis", by decide, by decide⟩ fun va3 => ?_
      refine e_kn (h_cell.kn rfl rfl rfl rfl rfl rfl (by decide)) fun kn_cell => ?_
      walk_at "tv"
      obtain ⟨so, hs⟩ := rowOk_at hR hd
      exact ⟨d, so, rfl, hs, rfl, rfl⟩
    · refine wa_nil (wm_join (ys := r.map cellS) (.inl (by rw [List.map_map]; rfl)) (join_room (m := 12) (fun y hy => ?_) ?_) ⟨rfl, ?_⟩)
      · obtain ⟨d, hd, rfl⟩ := List.mem_map.mp hy
        obtain ⟨s, hs⟩ := rowOk_at hR hd
        exact cellS_len hs
      · rw [List.length_map]
        have e2 : (Str.ofString ", ").length = 2 := rfl
        rw [e2]
        omega
      · rw [← e]
        rfl
  · refine wo_cat tq_lst tq_lst (by rw [List.length_map, sizeLine_eq]; show 1 + _ ≤ _; omega) ?_
    refine wa_nil (wm_join (ys := linesS cs rs) (.inl ?_) (join_room (linesS_len co hrow) ?_) (Ret.of hk))
    · unfold linesS
      rw [List.map_cons, List.map_map]
      rfl
    · unfold linesS
      rw [List.length_cons, List.length_map]
      have e1 : (Str.ofString "\n").length = 1 := rfl
      rw [e1]
      omega
/-! ### a table's text is split as it was put together -/
theorem no_low {z : Str} {c : Nat} (h : nameB z = true) (hc : c ∉ lowS.cps.toList) : c ∉ z.cps.toList := fun hm => by
  unfold nameB at h
  simp only [Bool.and_eq_true, decide_eq_true_eq, List.all_eq_true] at h
  exact hc (h.2.2.2 c hm)
theorem sort_cases {z : Str} (h : sortB z = true) : z = "text" ∨ z = "number" := by
  unfold sortB inV at h
  simp only [List.any_cons, List.any_nil, Bool.or_false, Bool.or_eq_true] at h
  rcases h with q | q
  · exact .inl (Eq.symm (by simpa [eqV] using q))
  · exact .inr (Eq.symm (by simpa [eqV] using q))
theorem no_sort {z : Str} {c : Nat} (h : sortB z = true) (h1 : c ∉ ("text" : Str).cps.toList) (h2 : c ∉ ("number" : Str).cps.toList) : c ∉ z.cps.toList := by
  rcases sort_cases h with rfl | rfl
  · exact h1
  · exact h2
theorem col_of {cs : List Col} (h : COk cs) {c : Col} (hc : c ∈ cs) : nameB c.1 = true ∧ sortB c.2 = true := by
  have h1 := h.ok
  unfold colsB at h1
  simp only [Bool.and_eq_true, List.all_eq_true] at h1
  have h2 := h1.2.1 (w2 c) (List.mem_map.mpr ⟨c, hc, rfl⟩)
  unfold w2 at h2
  rwa [colB_two, Bool.and_eq_true] at h2
theorem cols_ne {cs : List Col} (h : COk cs) : cs ≠ [] := fun e => by
  have h1 := h.ok
  rw [e] at h1
  unfold colsB at h1
  cases h1
theorem col_free {cs : List Col} (h : COk cs) {c : Col} (hc : c ∈ cs) {x : Nat} (h0 : x ∉ lowS.cps.toList) (h1 : x ≠ 32) (h2 : x ∉ ("text" : Str).cps.toList) (h3 : x ∉ ("number" : Str).cps.toList) : x ∉ (colS c).cps.toList := fun hm => by
  obtain ⟨a, b⟩ := col_of h hc
  unfold colS at hm
  rw [add_tl, add_tl] at hm
  rcases List.mem_append.mp
      hm with hm | hm
  · rcases List.mem_append.mp
        hm with hm | hm
    · exact no_low a h0 hm
    · exact h1 (List.mem_singleton.mp hm)
  · exact no_sort b h2 h3 hm
theorem split_cols {cs : List Col} (h : COk cs) : Txt.split (colsS cs) ", " = cs.map colS := by
  unfold colsS
  exact TL.split_join (s := 44) (S := [32]) (by rfl) (by decide +kernel) (fun z => cols_ne h (List.map_eq_nil_iff.mp z)) fun w hw => by
    obtain ⟨c, hc, rfl⟩ := List.mem_map.mp hw
    exact col_free h hc (by decide +kernel) (by decide) (by decide +kernel) (by decide +kernel)
theorem split_col {cs : List Col} (h : COk cs) {c : Col} (hc : c ∈ cs) : Txt.split (colS c) " " = [c.1, c.2] := by
  obtain ⟨a, b⟩ := col_of h hc
  have e : colS c = Txt.join " " [c.1, c.2] := by
    rw [TL.join_eq]
    rfl
  rw [e]
  refine TL.split_join (s := 32) (S := []) (by rfl) (by decide +kernel) (List.cons_ne_nil _ _) fun w hw => ?_
  rcases mem2 hw with rfl | rfl
  · exact no_low a (by decide +kernel)
  · exact no_sort b (by decide +kernel) (by decide +kernel)
/-- the signs that a cell's text may have -/
theorem cell_signs {s : Str} {d : D} (h : CellOk s d) {x : Nat} (hx : x ∈ (cellS d).cps.toList) : x = 45 ∨ x = 34 ∨ x = 32 ∨ x ∈ letS.cps.toList ∨ (48 ≤ x ∧ x ≤ 57) := by
  rcases h with rfl | ⟨_, z, rfl, _, ht⟩ | ⟨_, n, rfl, hn⟩
  · exact .inl (List.mem_singleton.mp hx)
  · have e : (cellS (.str z)).cps.toList = 34 :: (z.cps.toList ++ [34]) := by
      show ("\"" ++ z ++ "\"" : Str).cps.toList = _
      rw [add_tl, add_tl]
      rfl
    rw [e] at hx
    rcases List.mem_cons.mp
        hx with rfl | hx
    · exact .inr (.inl rfl)
    · rcases List.mem_append.mp
          hx with hx | hx
      · rcases sign_cases z x hx with rfl | hx
        · exact .inr (.inr (.inl rfl))
        · unfold txtB at ht
          simp only [Bool.and_eq_true, decide_eq_true_eq, List.all_eq_true] at ht
          exact .inr (.inr (.inr (.inl (ht.2 x hx))))
      · exact .inr (.inl (List.mem_singleton.mp hx))
  · rw [show (cellS (.int n)).cps.toList = _ from num_tl] at hx
    rcases List.mem_append.mp
        hx with hx | hx
    · split at hx
      · exact .inl (List.mem_singleton.mp hx)
      · cases hx
    · obtain ⟨ch, hch, e⟩ := List.mem_map.mp hx
      have r := digit_range (Nat.isDigit_of_mem_toDigits
          (by decide) (by decide) hch)
      rw [e] at r
      exact .inr (.inr (.inr (.inr r)))
theorem cell_free {s : Str} {d : D} (h : CellOk s d) {x : Nat} (h1 : x ≠ 45) (h2 : x ≠ 34) (h3 : x ≠ 32) (h4 : x ∉ letS.cps.toList) (h5 : ¬ (48 ≤ x ∧ x ≤ 57)) : x ∉ (cellS d).cps.toList := fun hx => by
  rcases cell_signs h hx with e | e | e | e | e
  · exact h1 e
  · exact h2 e
  · exact h3 e
  · exact h4 e
  · exact h5 e
theorem split_row {cs : List Col} {r : List D} (h : RowOk cs r) (hc : COk cs) : Txt.split (rowS r) ", " = r.map cellS := by
  unfold rowS
  refine TL.split_join (s := 44) (S := [32]) (by rfl) (by decide +kernel) (fun z => cols_ne hc ?_) fun w hw => ?_
  · have e : r = [] := List.map_eq_nil_iff.mp z
    have hl := h.1
    rw [e] at hl
    exact List.eq_nil_of_length_eq_zero hl.symm
  · obtain ⟨d, hd, rfl⟩ := List.mem_map.mp hw
    obtain ⟨s, hs⟩ := rowOk_at h hd
    exact cell_free hs (by decide) (by decide) (by decide) (by decide +kernel) (by decide)
theorem join_signs {sep : Str} {x : Nat} : ∀ {ys : List Str}, x ∈ (Str.join sep ys).cps.toList → x ∈ sep.cps.toList ∨ ∃ y ∈ ys, x ∈ y.cps.toList
  | [], h => by cases h
  | [y], h => .inr ⟨y, List.mem_singleton.mpr rfl, h⟩
  | y :: z :: r, h => by
    rw [show Str.join sep (y :: z :: r) = y ++ sep ++ Str.join sep (z :: r) from rfl, add_tl, add_tl] at h
    rcases List.mem_append.mp
        h with h | h
    · rcases List.mem_append.mp
          h with h | h
      · exact .inr ⟨y, List.mem_cons_self, h⟩
      · exact .inl h
    · rcases join_signs h with h | ⟨a, ha, h⟩
      · exact .inl h
      · exact .inr ⟨a, List.mem_cons_of_mem _ ha, h⟩
theorem split_tab {cs : List Col} {rs : List (List D)} (h : TbOk cs rs) : Txt.split (tabS cs rs) "\n" = linesS cs rs := by
  unfold tabS
  refine TL.split_join (s := 10) (S := []) (by rfl) (by decide +kernel) (List.cons_ne_nil _ _) fun w hw hx => ?_
  rcases List.mem_cons.mp hw with rfl | hw
  · unfold colsS at hx
    rw [TL.join_eq] at hx
    rcases join_signs hx with q | ⟨y, hy, q⟩
    · revert q; decide +kernel
    · obtain ⟨c, hc, rfl⟩ := List.mem_map.mp hy
      exact col_free h.co hc (by decide +kernel) (by decide) (by decide +kernel) (by decide +kernel) q
  · obtain ⟨r, hr, rfl⟩ := List.mem_map.mp hw
    unfold rowS at hx
    rw [TL.join_eq] at hx
    rcases join_signs hx with q | ⟨y, hy, q⟩
    · revert q; decide +kernel
    · obtain ⟨d, hd, rfl⟩ := List.mem_map.mp hy
      obtain ⟨s, hs⟩ := rowOk_at (h.row r hr) hd
      exact cell_free hs (by decide) (by decide) (by decide) (by decide +kernel) (by decide) q
theorem zip_cell : ∀ {cs : List Col} {r : List D}, r.length = cs.length → (∀ p ∈ r.zip cs, CellOk p.2.2 p.1) → (∀ c ∈ cs, c.2 = "text" ∨ c.2 = "number") →
    (∀ p ∈ (r.map cellS).zip cs, cellR p.2.2 p.1 ≠ none) ∧ (((r.map cellS).zip cs).map fun p => (cellR p.2.2 p.1).getD .non) = r
  | [], [], _, _, _ => ⟨fun p hp => (by cases hp), rfl⟩
  | [], _ :: _, h, _, _ => by cases h
  | _ :: _, [], h, _, _ => by cases h
  | c :: cs, d :: r, h, hp, hs => by
    have hd : CellOk c.2 d := hp (d, c) List.mem_cons_self
    have hb := cell_back hd (hs c List.mem_cons_self)
    obtain ⟨g1, g2⟩ := zip_cell (cs := cs) (r := r) (by simpa using h) (fun p q => hp p (List.mem_cons_of_mem _ q)) (fun a q => hs a (List.mem_cons_of_mem _ q))
    refine ⟨fun p q => ?_, ?_⟩
    · rcases List.mem_cons.mp
          q with rfl | q
      · show cellR c.2 (cellS d) ≠ none
        rw [hb]
        exact fun z => nomatch z
      · exact g1 p q
    · show (cellR c.2 (cellS d)).getD .non :: _ = _
      rw [hb]
      exact congrArg (List.cons d) g2
/-! ### spoilt texts -/
abbrev s__law_spoilt : Stmt := top 55
abbrev n__law_spoilt : List Str := ["_law_box_here", "_law_text", "_law_lines", "_law_form", "_law_at", "_law_odd", "_law_cells", "_law_spot"]
abbrev p__law_spoilt : List Str := ["_law_box_here", "_law_text"]
theorem sc__law_spoilt : FnScope n__law_spoilt p__law_spoilt (defScope s__law_spoilt) := ⟨rfl, rfl, rfl, by decide +kernel, rfl, by decide +kernel, by decide +kernel⟩
/-- how many signs of a text have p -/
def mu (p : Nat → Bool) (z : Str) : Nat := z.cps.toList.countP p
def anyC : Nat → Bool := fun _ => true
def newC : Nat → Bool := fun c => c == 10
def badC : Nat → Bool := fun c => !decide (c < 0x110000)
theorem mu_add {p : Nat → Bool} (a b : Str) : mu p (a ++ b) = mu p a + mu p b := by
  unfold mu
  rw [add_tl, List.countP_append]
theorem mu_len (z : Str) : mu anyC z = z.length := by
  unfold mu anyC
  rw [List.countP_true, zlen]
theorem mu_bad (z : Str) : mu badC z = 0 ↔ PyData.strOk z = true := by
  unfold mu badC PyData.strOk
  rw [List.countP_eq_zero, Array.all_eq_true']
  constructor
  · intro h c hc
    have := h c (Array.mem_toList_iff.mpr hc)
    simpa using this
  · intro h c hc
    have := h c (Array.mem_toList_iff.mp hc)
    simpa using this
theorem cnt_mu : ∀ l : List Nat, cnt 10 l = ((l.countP newC : Nat) : Int)
  | [] => rfl
  | a :: l => by
    rw [cnt_cons, cnt_mu l, List.countP_cons]
    unfold newC
    by_cases h : a = 10
    · rw [if_pos h, h]
      simp
      omega
    · rw [if_neg h]
      simp [h]
theorem mu_lines (z : Str) : (Txt.split z "\n").length = 1 + mu newC z := by
  have h := split_len z 10
  rw [cnt_mu] at h
  have e : (Txt.split z "\n").length = (Txt.split z ⟨#[10]⟩).length := rfl
  rw [e]
  unfold mu
  omega
def tw (p : Nat → Bool) (s : Str) (ws : List Str) : Nat := (ws.map fun x => mu p x + mu p s).sum
theorem tw_cons {p : Nat → Bool} {s : Str} (a : Str) (ws : List Str) : tw p s (a :: ws) = mu p a + mu p s + tw p s ws := by
  unfold tw
  rw [List.map_cons,
      List.sum_cons]
theorem tw_app {p : Nat → Bool} {s : Str} (xs ys : List Str) : tw p s (xs ++ ys) = tw p s xs + tw p s ys := by
  unfold tw
  rw [List.map_append, List.sum_append]
theorem tw_join {p : Nat → Bool} {s : Str} : ∀ {ws : List Str}, ws ≠ [] → mu p (Str.join s ws) + mu p s = tw p s ws
  | [], h => absurd rfl h
  | [a], _ => by
    rw [tw_cons]
    rfl
  | a :: b :: r, _ => by
    have ih := tw_join (p := p) (s := s) (ws := b :: r) (List.cons_ne_nil _ _)
    have e : Str.join s (a :: b :: r) = a ++ s ++ Str.join s (b :: r) := rfl
    rw [e, mu_add, mu_add, tw_cons, ← ih]
    omega
theorem tw_le {p : Nat → Bool} {s : Str} {ws : List Str} (h : ws ≠ []) : mu p (Txt.join s ws) + mu p s = tw p s ws := by
  rw [TL.join_eq]
  exact tw_join h
theorem split_ne2 (z s : Str) : Txt.split z s ≠ [] ∨ z = "" := by
  cases h : Txt.split z s with
  | nil =>
    have e := StrLaws.join_split z s
    rw [h] at e
    exact .inr e.symm
  | cons a b => exact .inl (List.cons_ne_nil _ _)
theorem tw_split {p : Nat → Bool} {s : Str} (z : Str) (h : Txt.split z s ≠ []) : tw p s (Txt.split z s) = mu p z + mu p s := by
  rw [← tw_join h, StrLaws.join_split]
theorem tw_set {p : Nat → Bool} {s x : Str} : ∀ {ws : List Str} {j : Nat} {a : Str}, ws[j]? = some a → tw p s (ws.set j x) + mu p a = tw p s ws + mu p x
  | [], j, _, h => by simp at h
  | b :: ws, 0, a, h => by
    obtain rfl : b = a := by simpa using h
    rw [List.set_cons_zero, tw_cons, tw_cons]
    omega
  | b :: ws, j + 1, a, h => by
    have ih := tw_set (p := p) (s := s) (x := x) (ws := ws) (j := j) (a := a) (by simpa using h)
    rw [List.set_cons_succ, tw_cons, tw_cons]
    omega
theorem tw_ins {p : Nat → Bool} {s : Str} (x : Str) (ws : List Str) (j : Nat) : tw p s (ws.take j ++ [x] ++ ws.drop j) = tw p s ws + mu p x + mu p s := by
  rw [tw_app, tw_app, tw_cons]
  have e : tw p s ws = tw p s (ws.take j) + tw p s (ws.drop j) := by rw [← tw_app, List.take_append_drop]
  rw [e]
  show _ + (_ + _ + 0) + _ = _
  omega
theorem tw_drop {p : Nat → Bool} {s : Str} (ws : List Str) (j t : Nat) : tw p s (ws.drop (j + t)) ≤ tw p s (ws.drop j) := by
  rw [← List.drop_drop]
  have e : tw p s (ws.drop j) = tw p s ((ws.drop j).take t) + tw p s ((ws.drop j).drop t) := by rw [← tw_app, List.take_append_drop]
  omega
theorem tw_cut {p : Nat → Bool} {s : Str} (x : Str) (ws : List Str) (j t : Nat) : tw p s (ws.take j ++ [x] ++ ws.drop (j + t)) ≤ tw p s ws + mu p x + mu p s := by
  have h1 := tw_ins (p := p) (s := s) x ws j
  have h2 := tw_drop (p := p) (s := s) ws j t
  rw [tw_app] at h1 ⊢
  omega
theorem tw_any (s : Str) : ∀ ws : List Str, (ws.map (·.length)).sum + ws.length * s.length = tw anyC s ws
  | [] => by simp [tw]
  | a :: ws => by
    have ih := tw_any s ws
    rw [tw_cons, ← ih, List.map_cons, List.sum_cons, List.length_cons, mu_len, mu_len, Nat.add_one_mul]
    omega
theorem tw_len {s : Str} : ∀ ws : List Str, ws.length * s.length ≤ tw anyC s ws := fun ws => by
  rw [← tw_any]
  omega
theorem mu_cuts {p : Nat → Bool} (z : Str) {i t : Int} (h : 0 ≤ i) (ht : 0 ≤ t) : mu p (cutS z none (some i)) + mu p (cutS z (some (i + t)) none) ≤ mu p z := by
  obtain ⟨a, rfl⟩ := Int.eq_ofNat_of_zero_le h
  obtain ⟨b, rfl⟩ := Int.eq_ofNat_of_zero_le ht
  have e : ((a : Int) + (b : Int)) = ((a + b : Nat) : Int) := by omega
  unfold mu
  rw [e, cut_tl, cut_tl, HT.sIx_nat, HT.sIx_nat, HT.sIx_none, HT.sIx_none, List.drop_zero, Nat.sub_zero]
  generalize z.cps.toList = l
  generalize z.length = n
  have h1 : ((l.drop (min (a + b) n)).take (n - min (a + b) n)).countP p ≤ (l.drop (min (a + b) n)).countP p := (List.take_sublist _ _).countP_le
  have e2 : min (a + b) n = min a n + (min (a + b) n - min a n) := by omega
  have h2 : (l.drop (min (a + b) n)).countP p ≤ (l.drop (min a n)).countP p := by
    rw [e2, ← List.drop_drop]
    exact (List.drop_sublist _ _).countP_le
  have h3 : (l.take (min a n)).countP p + (l.drop (min a n)).countP p = l.countP p := by
    rw [← List.countP_append, List.take_append_drop]
  omega
/-- what may be put into a text of n signs -/
def OddOk (n : Nat) (u : Str) : Prop := u.length ≤ n + 20 ∧ mu newC u ≤ 1 ∧ mu badC u = 0
def litB (y : Str) : Bool := decide (y.length ≤ 16) && (decide (mu newC y = 0) && decide (mu badC y = 0))
theorem lit_iff {y : Str} (h : litB y = true) : y.length ≤ 16 ∧ mu newC y = 0 ∧ mu badC y = 0 := by
  unfold litB at h
  simp only [Bool.and_eq_true,
      decide_eq_true_eq] at h
  exact h
def litsB (ds : List D) : Bool := ds.all fun e => match e with | .str y => litB y | _ => false
theorem lits_at {ds : List D} {e : D} (h : litsB ds = true) (he : e ∈ ds) : ∃ y : Str, e = .str y ∧ litB y = true := by
  have z := List.all_eq_true.mp h e he
  cases e <;> first | exact ⟨_, rfl, z⟩ | cases z
def oddA : List D := [.str "-", .str "00", .str "-0", .str "1000001", .str "1000000", .str "-1000000", .str "12345678", .str "\"", .str "\"\"", .str "\"a b\"", .str "\"a  \"", .str "\" \"", .str "x"]
def oddB : List D := [.str "5 ", .str "\"a1\"", .str "\"abcdefghij\"", .str "\"abcdefghijk\"", .str "", .str "zz text", .str "a Text", .str "text", .str "not number"]
def oddC : List D := [.str "+5", .str "a"]
theorem odd_lits : litsB (oddA ++ oddB ++ oddC) = true := by decide +kernel
theorem ins_lits : litsB [.str "-", .str "5", .str "\"x\"", .str "zz number"] = true := by decide +kernel
theorem odd_rows {x : Str} {e : D} (he : e ∈ ([.str "", .str "a text", .str "-", .str "-, -", .str "\"x\", 5", .str "0, 0", .str x, .str "n number, n text"] : List D)) : ∃ y : Str, e = .str y ∧ (litB y = true ∨ y = x) := by
  have key : litsB ([.str "", .str "a text", .str "-", .str "-, -", .str "\"x\", 5", .str "0, 0", .str "n number, n text"] : List D) = true := by decide +kernel
  by_cases h : e = .str x
  · exact ⟨x, h, .inr rfl⟩
  · obtain ⟨y, e1, e2⟩ := lits_at (e := e) key (by
      simp only [List.mem_cons, List.mem_nil_iff, or_false] at he ⊢
      rcases he with h1 | h1 | h1 | h1 | h1 | h1 | h1 | h1
      · exact .inl h1
      · exact .inr (.inl h1)
      · exact .inr (.inr (.inl h1))
      · exact .inr (.inr (.inr (.inl h1)))
      · exact .inr (.inr (.inr (.inr (.inl h1))))
      · exact .inr (.inr (.inr (.inr (.inr (.inl h1)))))
      · exact absurd h1 h
      · exact .inr (.inr (.inr (.inr (.inr (.inr h1))))))
    exact ⟨y, e1, .inl e2⟩
theorem sign_odd {e : D} (he : e ∈ signD ", \"-05aB\n") : ∃ y : Str, e = .str y ∧ y.length ≤ 1 ∧ mu newC y ≤ 1 ∧ mu badC y = 0 := by
  have key : ((signD ", \"-05aB\n").all fun e => match e with | .str y => decide (y.length ≤ 1) && (decide (mu newC y ≤ 1) && decide (mu badC y = 0)) | _ => false) = true := by decide +kernel
  have z := List.all_eq_true.mp key e he
  cases e <;> first | cases z; done | skip
  rename_i y
  simp only [Bool.and_eq_true, decide_eq_true_eq] at z
  exact ⟨y, rfl, z⟩
theorem fin_set {z l l' u : Str} {j : Nat} (hl : (Txt.split z "\n")[j]? = some l) (h : ∀ p, mu p l' ≤ mu p l + mu p u) (p : Nat → Bool) : tw p "\n" ((Txt.split z "\n").set j l') ≤ mu p z + mu p u + mu p "\n" ∧ mu p (Txt.join "\n" ((Txt.split z "\n").set j l')) ≤ mu p z + mu p u := by
  have ne : Txt.split z "\n" ≠ [] := fun e => by rw [e] at hl; simp at hl
  have h1 := tw_set (p := p) (s := "\n") (x := l') hl
  have h2 := tw_split (p := p) (s := "\n") z ne
  have h3 := h p
  have ne2 : (Txt.split z "\n").set j l' ≠ [] := fun e => ne (by
    have := congrArg List.length e
    rw [List.length_set] at this
    exact List.length_eq_zero_iff.mp this)
  have h4 := tw_le (p := p) (s := "\n") ne2
  omega
section
variable {X : Cx} {O : Ow} {k : KD}
theorem join_any {p : Addr} {s : Str} {ys : List Str} (ho : O p = some (.lst (ys.map .str))) (hz : tw anyC s ys ≤ 10000000) (h : k (.str (Txt.join s ys)) O) : WM X "str.join" (.str s) [.own p] O k := wm_join (ys := ys) (.inr (.inr ⟨p, rfl, ho⟩)) (by rw [tw_any]; omega) h
end
section
variable {O : Ow}
theorem sub_put {O1 : Ow} {p : Addr} {x : OD} (h : Sub O O1) (hp : O p = none) : Sub O (put O1 p x) := fun a od e => by
  by_cases q : a = p
  · rw [q, hp] at e
    cases e
  · rw [put_ne q]
    exact h a od e
theorem ixN_in {n : Nat} {i : Nat} (h1 : i < n) : ixN n (i : Int) = some i := by
  unfold ixN
  rw [if_pos (by omega),
      if_pos (by omega)]
  rfl
theorem cutD_hd (ds : List D) (j : Nat) : DL.cutD ds none (some (j : Int)) = ds.take j := by
  unfold DL.cutD
  rw [HT.sIx_none, HT.sIx_nat, List.drop_zero, Nat.sub_zero]
  by_cases h : j ≤ ds.length
  · rw [Nat.min_eq_left h]
  · rw [Nat.min_eq_right (by omega), List.take_length, List.take_of_length_le (by omega)]
theorem cutD_end (ds : List D) (j : Nat) : DL.cutD ds (some (j : Int)) none = ds.drop j := by
  unfold DL.cutD
  rw [HT.sIx_none, HT.sIx_nat]
  by_cases h : j ≤ ds.length
  · rw [Nat.min_eq_left h, List.take_of_length_le (by rw [List.length_drop]; omega)]
  · rw [Nat.min_eq_right (by omega), List.drop_of_length_le (Nat.le_refl _), List.drop_of_length_le (by omega), List.take_nil]
end
local macro_rules | `(tactic| walk_at "p1.WE") => `(tactic| first
  | ((with_reducible refine' we_bm (T := "str") (id := "str.split") PySem.F.plainAttrs_str PySem.F.slot_str_split ?a ?b ?c ?d ?e ?f ?_); (case a => rfl); (case b => rfl); (case c => rfl); (case d => rfl); (case e => rfl); (case f => rfl))
  | ((with_reducible refine' we_bm (T := "list") (id := "list.insert") PySem.F.plainAttrs_list PySem.F.slot_list_insert PySem.F.type_list_insert ?b ?c ?d ?e ?f ?_); (case b => rfl); (case c => rfl); (case d => rfl); (case e => rfl); (case f => rfl))
  | (with_reducible refine' we_lst ?_))
local macro_rules | `(tactic| walk_at "p1.WC") => `(tactic| first
  | ((with_reducible refine' wc_lenS ?h ?_); (case h => assumption))
  | ((with_reducible refine' wc_listS ?c ?z ?_); (case c => rfl); (case z => rw [sizeLine_eq]; decide)))
local macro_rules | `(tactic| walk_at "p1.WSl") => `(tactic| first
  | ((with_reducible refine' wsl_list ?d ?_); (case d => walk_at "sq")))
local macro_rules | `(tactic| walk_at "p1") => `(tactic| first
  | ((with_reducible refine' gq_WE ?_); walk_at "p1.WE")
  | ((with_reducible refine' gq_WC ?_); walk_at "p1.WC")
  | ((with_reducible refine' gq_WSl ?_); walk_at "p1.WSl")
  | walk_at "z1")
local macro_rules | `(tactic| walk_at "pv") => `(tactic| repeat' (walk_at "p1"))
def sSpoilt : SpD := fun ds O k _ => ∃ z : Str, ds = [.box, .str z] ∧ z.length ≤ 1000000 ∧ PyData.strOk z = true ∧ ∀ y u : Str, (∀ p, mu p y ≤ mu p z + mu p u) → OddOk z.length u → k (.str y) O
theorem pm_spoilt (Dd : Df K mg "_law_spoilt" s__law_spoilt p__law_spoilt) (h_take : Pm P w K mg base "_law_take" 1 sTake) (h_pick : Pm P w K mg base "_law_pick" 2 sPick) (b_len : mg "len" = none) (b_list : mg "list" = none) : Pm P w K mg base "_law_spoilt" 3 sSpoilt := by
  refine Pm.of Dd sc__law_spoilt (fun ds O k kx h => by obtain ⟨_, h, _⟩ := h; rw [h]; rfl) (fun f cdv A outer s H E hg hr ds O k kx hS => ?_)
  obtain ⟨z, rfl, hz, ho, hk⟩ := hS
  generalize hbb : defBody s__law_spoilt = bb
  refine with_va (x := "_law_box_here") (i := 0) ⟨rfl, by walk_at "vis", by decide, by decide⟩ fun va0 => ?_
  refine with_va (x := "_law_text") (i := 1) ⟨rfl, by walk_at "vis", by decide, by decide⟩ fun va1 => ?_
  refine with_va (x := "_law_lines") (i := 2) ⟨rfl, by walk_at "vis", by decide, by decide⟩ fun va2 => ?_
  refine with_va (x := "_law_form") (i := 3) ⟨rfl, by walk_at "vis", by decide, by decide⟩ fun va3 => ?_
  refine with_va (x := "_law_at") (i := 4) ⟨rfl, by walk_at "vis", by decide, by decide⟩ fun va4 => ?_
  refine with_va (x := "_law_odd") (i := 5) ⟨rfl, by walk_at "vis", by decide, by decide⟩ fun va5 => ?_
  refine with_va (x := "_law_cells") (i := 6) ⟨rfl, by walk_at "vis", by decide, by decide⟩ fun va6 => ?_
  refine with_va (x := "_law_spot") (i := 7) ⟨rfl, by walk_at "vis", by decide, by decide⟩ fun va7 => ?_
  refine with_vs (x := "_law_lines") (i := 2) ⟨sc__law_spoilt.nd, rfl, by walk_at "loc", .inl rfl⟩ fun vs2 => ?_
  refine with_vs (x := "_law_form") (i := 3) ⟨sc__law_spoilt.nd, rfl, by walk_at "loc", .inl rfl⟩ fun vs3 => ?_
  refine with_vs (x := "_law_at") (i := 4) ⟨sc__law_spoilt.nd, rfl, by walk_at "loc", .inl rfl⟩ fun vs4 => ?_
  refine with_vs (x := "_law_odd") (i := 5) ⟨sc__law_spoilt.nd, rfl, by walk_at "loc", .inl rfl⟩ fun vs5 => ?_
  refine with_vs (x := "_law_cells") (i := 6) ⟨sc__law_spoilt.nd, rfl, by walk_at "loc", .inl rfl⟩ fun vs6 => ?_
  refine with_vs (x := "_law_spot") (i := 7) ⟨sc__law_spoilt.nd, rfl, by walk_at "loc", .inl rfl⟩ fun vs7 => ?_
  refine with_bn (x := "len") (id := "len") ⟨rfl, b_len, by decide +kernel, by decide, by decide⟩ fun bn_len => ?_
  refine with_bt (x := "list") (T := "list") ⟨rfl, b_list, by decide +kernel, by decide, by decide⟩ fun bt_list => ?_
  refine with_kn (h_take.kn rfl rfl rfl rfl rfl rfl (by decide)) fun kn_take => ?_
  refine with_kn (h_pick.kn rfl rfl rfl rfl rfl rfl (by decide)) fun kn_pick => ?_
  subst hbb
  walk_at "body"
  (with_reducible refine' ws_cons ?_)
  ((with_reducible refine' ws_parR ?c ?x ?y ?n ?lx ?ly ?w ?s ?_); (case c => rfl); (case x => assumption); (case y => assumption); (case n => decide); (case lx => rfl); (case ly => rfl); (case w => rfl); (case s => rfl))
  ((with_reducible refine' wa_cons ?h ?_); (case h => rfl))
  ((with_reducible refine' we_bm (T := "str") (id := "str.split") PySem.F.plainAttrs_str PySem.F.slot_str_split ?a ?b ?c ?d ?e ?f ?_); (case a => rfl); (case b => rfl); (case c => rfl); (case d => rfl); (case e => rfl); (case f => rfl))
  walk_at "ev"
  refine wm_splitO (by decide +kernel) (split_room (by omega)) fun p hp => ?_
  have wne := split_nn (z := z) sp_line
  have wfree : ∀ y ∈ Txt.split z "\n", mu newC y = 0 ∧ y.length ≤ z.length ∧ mu badC y = 0 := fun y hy => by
    refine ⟨?_, split_mem sp_line hy, (mu_bad y).mpr (ok_split ho hy)⟩
    have h := StrLaws.split_free z 10 y hy
    unfold mu newC
    rw [List.countP_eq_zero]
    intro c hc
    simp only [beq_iff_eq]
    exact fun e => h (e ▸ hc)
  have wlen : (Txt.split z "\n").length ≤ z.length + 1 := by
    rw [mu_lines, ← mu_len]
    unfold mu anyC
    have := List.countP_mono_left (l := z.cps.toList) (p := newC) (q := fun _ => true) (fun _ _ _ => rfl)
    omega
  have fs := fun l l' u j hl h => fin_set (z := z) (l := l) (l' := l') (u := u) (j := j) hl h
  have cs := fun (q : Nat → Bool) (y : Str) (i t : Nat) => tw_cut (p := q) (s := "\n") y (Txt.split z "\n") i t
  have tz := fun p => tw_split (p := p) (s := "\n") z wne
  have nn : mu anyC "\n" = 1 := rfl
  generalize Txt.split z "\n" = ws at wne wfree wlen fs cs tz
  have wl0 : 0 < ws.length := List.length_pos_iff.mpr wne
  have wl1 : 0 < (ws.map D.str).length := by rw [List.length_map]; exact wl0
  have wl2 : (ws.map D.str).length < 1073741824 := by rw [List.length_map]; omega
  have out : ∀ (j : Nat) (l l' u : Str) (O4 : Ow), ws[j]? = some l → (∀ r, mu r l' ≤ mu r l + mu r u) → OddOk z.length u → Sub O O4 → tw anyC "\n" (ws.set j l') ≤ 10000000 ∧ Ret k (.str (Txt.join "\n" (ws.set j l'))) O4 := fun j l l' u O4 hl h ou sb => by
    refine ⟨?_, .same sb (hk _ u (fun r => (fs l l' u j hl h r).2) ou)⟩
    have := (fs l l' u j hl h anyC).1
    rw [mu_len, mu_len, nn] at this
    have := ou.1
    omega
  walk_at "zv"
  · rename_i fm f0 f1 at_ a0 a1 hc
    obtain ⟨j, rfl⟩ := Int.eq_ofNat_of_zero_le a0
    rw [List.length_map] at a1
    obtain ⟨l, hl⟩ : ∃ l, ws[j]? = some l := ⟨_, List.getElem?_eq_getElem (by omega)⟩
    have ha : atI (ws.map D.str) (j : Int) = some (.str l) := atI_nat (by rw [List.getElem?_map, hl]; rfl)
    walk_at "pv"
    refine wi_list (sq_own put_same) ha ?_
    walk_at "pv"
    rw [cutD_hd]
    refine sPick_l sq_lst ⟨by show 0 < 8; decide, by show 8 < _; decide⟩ fun e he => ?_
    obtain ⟨y, rfl, hy⟩ := odd_rows he
    have hy3 : y.length ≤ z.length + 16 ∧ mu newC y = 0 ∧ mu badC y = 0 := by
      rcases hy with hy | rfl
      · have := lit_iff hy
        exact ⟨by omega, this.2⟩
      · have := wfree y (List.mem_of_getElem? hl)
        exact ⟨by omega, this.1, this.2.2⟩
    walk_at "pv"
    rw [← List.map_take]
    refine wo_cat tq_lst tq_lst (by rw [List.length_map, List.length_take, sizeLine_eq]; show _ + 1 ≤ _; omega) ?_
    walk_at "pv"
    rename_i t t0 t1
    have e : (j : Int) + t = ((j + t.toNat : Nat) : Int) := by omega
    rw [e, cutD_end, ← List.map_drop]
    refine wo_cat tq_lst tq_lst (by rw [List.length_append, List.length_map, List.length_map, List.length_take, List.length_drop, sizeLine_eq]; show _ + 1 + _ ≤ _; omega) ?_
    walk_at "pv"
    have hc2 := fun q => cs q y j t.toNat
    have ne : ws.take j ++ [y] ++ ws.drop (j + t.toNat) ≠ [] := by simp
    have hw := fun q => tw_le (p := q) (s := "\n") ne
    refine wm_join (ys := ws.take j ++ [y] ++ ws.drop (j + t.toNat)) (.inl (by rw [List.map_append, List.map_append]; rfl)) ?_ ?_
    · rw [tw_any]
      have h1 := hc2 anyC
      have h2 := tz anyC
      rw [mu_len] at h1 h2
      omega
    · refine .same (Sub.put hp) (hk _ (y ++ "\n") (fun q => ?_) ⟨?_, ?_, ?_⟩)
      · have h1 := hc2 q
        have h2 := tz q
        have h3 := hw q
        rw [mu_add]
        omega
      · rw [len_add]
        show y.length + 1 ≤ _
        omega
      · rw [mu_add, hy3.2.1]
        decide +kernel
      · rw [mu_add, hy3.2.2]
        decide +kernel
  · rename_i fm f0 f1 at_ a0 a1 hc1 hc2
    obtain ⟨j, rfl⟩ := Int.eq_ofNat_of_zero_le a0
    rw [List.length_map] at a1
    obtain ⟨l, hl⟩ : ∃ l, ws[j]? = some l := ⟨_, List.getElem?_eq_getElem (by omega)⟩
    have ha : atI (ws.map D.str) (j : Int) = some (.str l) := atI_nat (by rw [List.getElem?_map, hl]; rfl)
    obtain ⟨l0, l1, l2⟩ := wfree l (List.mem_of_getElem? hl)
    walk_at "pv"
    refine wi_list (sq_own put_same) ha ?_
    walk_at "pv"
    refine wm_splitO (by decide +kernel) (split_room (by omega)) fun q hq => ?_
    have cne := split_nn (z := l) sp_comma
    have tc := fun r => tw_split (p := r) (s := ", ") l cne
    generalize Txt.split l ", " = cells at cne tc
    have c0 : 0 < cells.length := List.length_pos_iff.mpr cne
    have c2 : cells.length * 2 ≤ l.length + 2 := by
      have h1 := tw_len (s := ", ") cells
      have h2 := tc anyC
      rw [mu_len] at h2
      have h3 : (", " : Str).length = 2 := rfl
      have h4 : mu anyC ", " = 2 := rfl
      rw [h3] at h1
      omega
    have cm0 : 0 < (cells.map D.str).length := by rw [List.length_map]; exact c0
    have cm1 : (cells.map D.str).length < 1073741824 := by rw [List.length_map]; omega
    have hpq : p ≠ q := fun e => by rw [e, put_same] at hq; cases hq
    have hqO : O q = none := by rw [← put_ne (O := O) (Ne.symm hpq)]; exact hq
    walk_at "pv"
    refine wo_cat (xs := oddA) (ys := oddB) (.inl rfl) (.inl rfl) (by decide) ?_
    walk_at "pv"
    refine wo_cat (xs := oddA ++ oddB) (ys := oddC) (.inl rfl) (.inl rfl) (by decide) ?_
    walk_at "pv"
    refine sPick_l (xs := oddA ++ oddB ++ oddC) sq_lst ⟨by decide, by decide⟩ fun e he => ?_
    obtain ⟨y, rfl, hy⟩ := lits_at odd_lits he
    obtain ⟨y1, y2, y3⟩ := lit_iff hy
    walk_at "pv"
    rename_i t t0 t1
    obtain ⟨t, rfl⟩ := Int.eq_ofNat_of_zero_le t0
    rw [List.length_map] at t1
    obtain ⟨a, hat⟩ : ∃ a, cells[t]? = some a := ⟨_, List.getElem?_eq_getElem (by omega)⟩
    have ts := fun r => tw_set (p := r) (s := ", ") (x := y) hat
    have cne2 : cells.set t y ≠ [] := fun e => cne (by
      have := congrArg List.length e
      rw [List.length_set] at this
      exact List.length_eq_zero_iff.mp this)
    have tj := fun r => tw_le (p := r) (s := ", ") cne2
    refine wset_list put_same (ixN_in (by rw [List.length_map]; omega)) ?_
    rw [put_put, ← List.map_set]
    walk_at "pv"
    refine join_any put_same ?_ ?_
    · have h1 := ts anyC
      have h2 := tc anyC
      have h4 : mu anyC ", " = 2 := rfl
      rw [mu_len, mu_len] at h1
      rw [mu_len] at h2
      omega
    obtain ⟨g1, g2⟩ := out j l (Txt.join ", " (cells.set t y)) y (put (put (put O p (.lst (ws.map .str))) q (.lst ((cells.set t y).map .str))) p (.lst ((ws.set j (Txt.join ", " (cells.set t y))).map .str))) hl (fun r => by
      have h1 := ts r
      have h2 := tc r
      have h3 := tj r
      omega) ⟨by omega, by omega, y3⟩ (sub_put (sub_put (sub_put (Sub.refl O) hp) hqO) hp)
    walk_at "pv"
    refine wset_list ((put_ne hpq).trans put_same) (ixN_in (by rw [List.length_map]; omega)) ?_
    rw [show (ws.map D.str).set j (.str (Txt.join ", " (cells.set t y))) = (ws.set j (Txt.join ", " (cells.set t y))).map D.str from (List.map_set ..).symm]
    walk_at "pv"
    exact join_any put_same g1 g2
  · rename_i fm f0 f1 at_ a0 a1 hc1 hc2 hc3
    obtain ⟨j, rfl⟩ := Int.eq_ofNat_of_zero_le a0
    rw [List.length_map] at a1
    obtain ⟨l, hl⟩ : ∃ l, ws[j]? = some l := ⟨_, List.getElem?_eq_getElem (by omega)⟩
    have ha : atI (ws.map D.str) (j : Int) = some (.str l) := atI_nat (by rw [List.getElem?_map, hl]; rfl)
    obtain ⟨l0, l1, l2⟩ := wfree l (List.mem_of_getElem? hl)
    have hls : l.length ≤ sizeLine := by rw [sizeLine_eq]; omega
    refine wi_list (sq_own put_same) ha ?_
    walk_at "pv"
    rename_i sp s0 s1
    refine wi_list (sq_own put_same) ha ?_
    walk_at "pv"
    refine sPick_l sq_lst ⟨by decide +kernel, by decide +kernel⟩ fun e he => ?_
    obtain ⟨y, rfl, y1, y2, y3⟩ := sign_odd he
    have k1 := len_cutZ l none (some sp)
    refine wo_addS (by rw [sizeLine_eq]; omega) ?_
    walk_at "pv"
    refine wi_list (sq_own put_same) ha ?_
    walk_at "pv"
    rename_i t t0 t1
    have k2 := len_cutZ l (some (sp + t)) none
    refine wo_addS (by rw [len_add, sizeLine_eq]; omega) ?_
    have hcut := fun r => mu_cuts (p := r) l s0 t0
    obtain ⟨g1, g2⟩ := out j l (cutS l none (some sp) ++ y ++ cutS l (some (sp + t)) none) y (put O p (.lst ((ws.set j (cutS l none (some sp) ++ y ++ cutS l (some (sp + t)) none)).map .str))) hl (fun r => by
      have h1 := hcut r
      rw [mu_add, mu_add]
      omega) ⟨by omega, y2, y3⟩ (sub_put (Sub.refl O) hp)
    walk_at "pv"
    refine wset_list put_same (ixN_in (by rw [List.length_map]; omega)) ?_
    rw [put_put, ← List.map_set]
    walk_at "pv"
    exact join_any put_same g1 g2
  · rename_i fm f0 f1 at_ a0 a1 hc1 hc2 hc3
    obtain ⟨j, rfl⟩ := Int.eq_ofNat_of_zero_le a0
    rw [List.length_map] at a1
    obtain ⟨l, hl⟩ : ∃ l, ws[j]? = some l := ⟨_, List.getElem?_eq_getElem (by omega)⟩
    have ha : atI (ws.map D.str) (j : Int) = some (.str l) := atI_nat (by rw [List.getElem?_map, hl]; rfl)
    obtain ⟨l0, l1, l2⟩ := wfree l (List.mem_of_getElem? hl)
    walk_at "pv"
    refine wi_list (sq_own put_same) ha ?_
    walk_at "pv"
    refine wm_splitO (by decide +kernel) (split_room (by omega)) fun q hq => ?_
    have cne := split_nn (z := l) sp_comma
    have tc := fun r => tw_split (p := r) (s := ", ") l cne
    generalize Txt.split l ", " = cells at cne tc
    have c2 : cells.length * 2 ≤ l.length + 2 := by
      have h1 := tw_len (s := ", ") cells
      have h2 := tc anyC
      rw [mu_len] at h2
      have h3 : (", " : Str).length = 2 := rfl
      have h4 : mu anyC ", " = 2 := rfl
      rw [h3] at h1
      omega
    have cm1 : (cells.map D.str).length < 1073741823 := by rw [List.length_map]; omega
    have hpq : p ≠ q := fun e => by rw [e, put_same] at hq; cases hq
    have hqO : O q = none := by rw [← put_ne (O := O) (Ne.symm hpq)]; exact hq
    walk_at "pv"
    refine tym_own put_same ?_
    walk_at "pv"
    rename_i t t0 t1
    obtain ⟨t, rfl⟩ := Int.eq_ofNat_of_zero_le t0
    rw [List.length_map] at t1
    refine sPick_l (xs := [.str "-", .str "5", .str "\"x\"", .str "zz number"]) sq_lst ⟨by decide, by decide⟩ fun e he => ?_
    obtain ⟨y, rfl, hy⟩ := lits_at ins_lits he
    obtain ⟨y1, y2, y3⟩ := lit_iff hy
    walk_at "pv"
    refine wm_insert put_same (by rw [List.length_map, sizeLine_eq]; omega) t0 (by omega) ?_
    have ts := fun r => tw_ins (p := r) (s := ", ") y cells t
    have cne2 : cells.take t ++ [y] ++ cells.drop t ≠ [] := by simp
    have tj := fun r => tw_le (p := r) (s := ", ") cne2
    rw [put_put, show (cells.map D.str).take ((t : Int).toNat) ++ [.str y] ++ (cells.map D.str).drop ((t : Int).toNat) = (cells.take t ++ [y] ++ cells.drop t).map D.str by rw [List.map_append, List.map_append, List.map_take, List.map_drop]; rfl]
    generalize cells.take t ++ [y] ++ cells.drop t = cs2 at ts tj
    walk_at "pv"
    refine join_any put_same ?_ ?_
    · have h1 := ts anyC
      have h2 := tc anyC
      have h4 : mu anyC ", " = 2 := rfl
      rw [mu_len] at h1
      rw [mu_len] at h2
      omega
    obtain ⟨g1, g2⟩ := out j l (Txt.join ", " cs2) (y ++ ", ") (put (put (put O p (.lst (ws.map .str))) q (.lst (cs2.map .str))) p (.lst ((ws.set j (Txt.join ", " cs2)).map .str))) hl (fun r => by
      have h1 := ts r
      have h2 := tc r
      have h3 := tj r
      rw [mu_add]
      omega) ⟨by rw [len_add]; show y.length + 2 ≤ _; omega, by rw [mu_add, y2]; decide +kernel, by rw [mu_add, y3]; decide +kernel⟩ (sub_put (sub_put (sub_put (Sub.refl O) hp) hqO) hp)
    walk_at "pv"
    refine wset_list ((put_ne hpq).trans put_same) (ixN_in (by rw [List.length_map]; omega)) ?_
    rw [show (ws.map D.str).set j (.str (Txt.join ", " cs2)) = (ws.set j (Txt.join ", " cs2)).map D.str from (List.map_set ..).symm]
    walk_at "pv"
    exact join_any put_same g1 g2
theorem rng_el {n i : Nat} {d : D} (h : (rngD 0 n)[i]? = some d) : ∃ j : Nat, d = .int (j : Int) := by
  unfold rngD at h
  rw [List.getElem?_map] at h
  cases e : (List.range n)[i]? with
  | none => rw [e]
        at h; cases h
  | some q =>
    rw [e] at h
    cases h
    exact ⟨q, by simp⟩
theorem rng_lt {n i : Nat} {d : D} (h : (rngD 0 n)[i]? = some d) : i < n := by
  have z := (List.getElem?_eq_some_iff.mp h).1
  rw [rngD_len] at z
  exact z
/-! ### the law -/
abbrev s_law : Stmt := top 57
abbrev n_law : List Str := ["_law_script", "_law_k", "_law_box_here", "_law_turn", "_law_columns_here", "_law_text", "_law_more", "_law_is_small"]
abbrev p_law : List Str := ["_law_script"]
theorem sc_law : FnScope n_law p_law (defScope s_law) := ⟨rfl, rfl, rfl, by decide +kernel, rfl, by decide +kernel, by decide +kernel⟩
theorem ne_self {x : Str} : (!decide (x = x)) = false := by rw [decide_eq_true rfl]; rfl
theorem shw_lst {n m k : Nat} {ds : List D} (h : ∀ d ∈ ds, Shw d n m) (hk : ds.length * m + ds.length * 2 + 3 ≤ k) : Shw (.lst ds) (n + 1) k := by
  obtain ⟨g1, g2, g3, g4, g5, g6⟩ := shw_pys h
  refine ⟨by rw [D.isPy]; exact g1, by rw [D.py, PyData.showable]; exact g2, by rw [D.py, PyData.canLay0]; exact g3, by rw [D.py, PyData.depth]; omega, ?_⟩
  rw [D.py, PyData.shown]
  unfold listText
  rw [len_add]
  have j := textFrom_len_le (PyData.shownAll (D.pys ds)) 0 "["
  have j2 := sum_le g5
  rw [g6] at j j2
  have e1 : (Str.ofString "[").length = 1 := rfl
  have e3 : (Str.ofString "]").length = 1 := rfl
  rw [e1] at j
  rw [e3]
  omega
theorem shw_col2 {cs : List Col} (h : COk cs) : Shw (.lst (cs.map colD)) 2 2000 := by
  refine shw_lst (n := 1) (m := 130) (fun d hd => ?_) (by have := h.sz; rw [List.length_map]; omega)
  obtain ⟨c, hc, rfl⟩ := List.mem_map.mp hd
  refine shw_tup (n := 0) (m := 60) (fun d hd => ?_) (by show 2 * 60 + 2 * 2 + 3 ≤ _; omega)
  rcases mem2 hd with rfl | rfl
  · have := shw_word h ⟨c, hc, .inl rfl⟩
    exact shw_str this.1 this.2
  · have := shw_word h ⟨c, hc, .inr rfl⟩
    exact shw_str this.1 this.2
theorem shw_row2 {cs : List Col} {rs : List (List D)} (h : ∀ r ∈ rs, RowOk cs r) (hc : cs.length ≤ 10) (hz : rs.length ≤ 100) : Shw (.lst (rs.map .tup)) 2 110000 := by
  refine shw_lst (n := 1) (m := 1000) (fun d hd => ?_) (by rw [List.length_map]; omega)
  obtain ⟨r, hr1, rfl⟩ := List.mem_map.mp hd
  exact shw_row (h r hr1) hc
theorem bad_le {cs : List Col} : ∀ {ls : List Str} {n i : Nat}, firstBad cs n ls = some i → i < n + ls.length
  | [], _, _, h => by cases h
  | l :: ls, n, i, h => by
    rw [firstBad] at h
    split at h
    · cases h
      rw [List.length_cons]
      omega
    · have := bad_le h
      rw [List.length_cons]
      omega
theorem bad_all {cs : List Col} : ∀ {ls : List Str} {n : Nat}, firstBad cs n ls = none → ∀ l ∈ ls, rowIn cs l ≠ none
  | [], _, _, l, hl => by cases hl
  | x :: ls, n, h, l, hl => by
    rw [firstBad] at h
    split at h
    · cases h
    · rename_i q
      rcases List.mem_cons.mp hl with rfl | hl
      · exact q
      · exact bad_all h l hl
/-- what a small text tells can be shown -/
theorem shw_tab {z : Str} (hz : z.length ≤ 1000) (hn : (Txt.split z "\n").length ≤ 101) (hc : ∀ l0 ls, Txt.split z "\n" = l0 :: ls → (Txt.split l0 ", ").length ≤ 10) : Shw (tabRes (tabIn z)) 3 230000 := by
  have num : ∀ i : Nat, i ≤ 101 → Shw (tabRes (.inl i)) 3 230000 := fun i hi => by
    have h := shw_num (n := (i : Int)) (by unfold numB; simp; omega)
    exact ⟨h.py, h.sh, h.lay, Nat.le_trans h.dp (by decide), Nat.le_trans h.ln (by decide)⟩
  unfold tabIn
  cases hsp : Txt.split z "\n" with
  | nil => exact num 0 (by decide)
  | cons l0 ls =>
    rw [hsp, List.length_cons] at hn
    have hlen : l0.length ≤ 1000 := by
      have := split_mem sp_line (z := z) (x := l0) (by rw [hsp]; exact List.mem_cons_self)
      omega
    show Shw (tabRes (if colsB (colsIn l0) = false then .inl 0 else match firstBad (cols2 (colsIn l0)) 1 ls with
      | some i => .inl i
      | none => .inr (cols2 (colsIn l0), ls.map fun l => (rowIn (cols2 (colsIn l0)) l).getD []))) 3 230000
    by_cases hb : colsB (colsIn l0) = false
    · rw [if_pos hb]
      exact num 0 (by decide)
    · rw [if_neg hb]
      have co := cok_in2 hlen (hc l0 ls hsp) (by cases h : colsB (colsIn l0) <;> simp_all)
      cases hf : firstBad (cols2 (colsIn l0)) 1 ls with
      | some i =>
        have := bad_le hf
        exact num i (by omega)
      | none =>
        have hall := bad_all hf
        show Shw (.lst [.lst _, .lst _]) 3 230000
        refine shw_lst (n := 2) (m := 110000) (fun d hd => ?_) (by show 2 * 110000 + 2 * 2 + 3 ≤ _; omega)
        rcases mem2 hd with rfl | rfl
        · have h := shw_col2 co
          exact ⟨h.py, h.sh, h.lay, h.dp, Nat.le_trans h.ln (by decide)⟩
        · refine shw_row2 (cs := cols2 (colsIn l0)) (fun r hr => ?_) co.sz (by rw [List.length_map]; omega)
          obtain ⟨l, hl, rfl⟩ := List.mem_map.mp hr
          cases q : rowIn (cols2 (colsIn l0)) l with
          | none => exact absurd q (hall l hl)
          | some r => exact row_in q
/-- the signs that texts of tables have -/
theorem low_okk {x : Nat} (h : x ∈ lowS.cps.toList) : x < 0x110000 := by
  have key : (lowS.cps.toList.all fun c => decide (c < 0x110000)) = true := by decide +kernel
  exact of_decide_eq_true (List.all_eq_true.mp key x h)
theorem let_okk {x : Nat} (h : x ∈ letS.cps.toList) : x < 0x110000 := by
  have key : (letS.cps.toList.all fun c => decide (c < 0x110000)) = true := by decide +kernel
  exact of_decide_eq_true (List.all_eq_true.mp key x h)
theorem tab_signs {cs : List Col} {rs : List (List D)} (h : TbOk cs rs) : PyData.strOk (tabS cs rs) = true := by
  unfold PyData.strOk
  rw [Array.all_eq_true']
  intro x hx
  refine decide_eq_true ?_
  have hx := Array.mem_toList_iff.mpr hx
  have lit : ∀ {z : Str}, x ∈ z.cps.toList → (z.cps.toList.all fun c => decide (c < 0x110000)) = true → x < 0x110000 := fun h1 h2 => of_decide_eq_true (List.all_eq_true.mp h2 x h1)
  unfold tabS at hx
  rw [TL.join_eq] at hx
  rcases join_signs hx with hx | ⟨y, hy, hx⟩
  · exact lit hx (by decide +kernel)
  unfold linesS at hy
  rcases List.mem_cons.mp
      hy with rfl | hy
  · unfold colsS at hx
    rw [TL.join_eq] at hx
    rcases join_signs hx with hx | ⟨y, hy, hx⟩
    · exact lit hx (by decide +kernel)
    obtain ⟨c, hc, rfl⟩ := List.mem_map.mp hy
    by_cases hl : x ∈ lowS.cps.toList
    · exact low_okk hl
    by_cases h1 : x = 32
    · omega
    by_cases h2 : x ∈ ("text" : Str).cps.toList
    · exact lit h2 (by decide +kernel)
    by_cases h3 : x ∈ ("number" : Str).cps.toList
    · exact lit h3 (by decide +kernel)
    exact absurd hx (col_free h.co hc hl h1 h2 h3)
  · obtain ⟨r, hr, rfl⟩ := List.mem_map.mp hy
    unfold rowS at hx
    rw [TL.join_eq] at hx
    rcases join_signs hx with hx | ⟨y, hy, hx⟩
    · exact lit hx (by decide +kernel)
    obtain ⟨d, hd, rfl⟩ := List.mem_map.mp hy
    obtain ⟨so, hs⟩ := rowOk_at (h.row r hr) hd
    rcases cell_signs hs hx with e | e | e | e | e
    · omega
    · omega
    · omega
    · exact let_okk e
    · omega
theorem tab_lines {cs : List Col} {rs : List (List D)} (h : TbOk cs rs) (hz : rs.length ≤ 4) : mu newC (tabS cs rs) ≤ 4 ∧ (tabS cs rs).length ≤ 110000 := by
  have e := mu_lines (tabS cs rs)
  rw [split_tab h] at e
  have e2 : (linesS cs rs).length = rs.length + 1 := by
    unfold linesS
    rw [List.length_cons, List.length_map]
  have j := txt_join_le (sep := "\n") (linesS_len h.co h.row)
  have e1 : (Str.ofString "\n").length = 1 := rfl
  rw [e1, e2] at j
  refine ⟨by omega, ?_⟩
  unfold tabS
  omega
/-- a text on its way: i times spoilt -/
structure Way (i : Nat) (y : Str) : Prop where
  ln : y.length + 20 ≤ 2 ^ i * 110020
  nl : mu newC y ≤ 4 + i
  ok : PyData.strOk y = true
theorem way_0 {cs : List Col} {rs : List (List D)} (h : TbOk cs rs) (hz : rs.length ≤ 4) : Way 0 (tabS cs rs) := ⟨by have := (tab_lines h hz).2; omega, (tab_lines h hz).1, tab_signs h⟩
theorem way_s {i : Nat} {z y u : Str} (h : Way i z) (h1 : ∀ p, mu p y ≤ mu p z + mu p u) (h2 : OddOk z.length u) : Way (i + 1) y := by
  obtain ⟨u1, u2, u3⟩ := h2
  refine ⟨?_, ?_, (mu_bad y).mp ?_⟩
  · have := h1 anyC
    rw [mu_len, mu_len, mu_len] at this
    have := h.ln
    rw [Nat.pow_succ]
    omega
  · have := h1 newC
    have := h.nl
    omega
  · have := h1 badC
    have := (mu_bad z).mpr h.ok
    omega
theorem tab_none : tabIn "" = .inl 0 := by
  unfold tabIn
  have h1 : Txt.split "" "\n" = ([""] : List Str) := by decide +kernel
  have h2 : colsB (colsIn "") = false := by decide +kernel
  rw [h1]
  exact if_pos h2
theorem row_none : rowIn [("a", "text")] "" = none := by
  unfold rowIn
  refine if_neg fun h => ?_
  have e : (Txt.split "" ", ").zip [(("a" : Str), ("text" : Str))] = [(("" : Str), (("a" : Str), ("text" : Str)))] := by decide +kernel
  refine h.2 ("", ("a", "text")) (by rw [e]; exact List.mem_cons_self) ?_
  unfold cellR
  rw [if_neg (by decide +kernel), if_neg (by decide +kernel), if_neg (by decide +kernel)]
theorem tab_bare : tabIn "a text\n" = .inl 1 := by
  unfold tabIn
  have h1 : Txt.split "a text\n" "\n" = (["a text", ""] : List Str) := by decide +kernel
  have h2 : colsB (colsIn "a text") = true := by decide +kernel
  have h3 : cols2 (colsIn "a text") = ([("a", "text")] : List Col) := by decide +kernel
  have h4 : firstBad [("a", "text")] 1 [""] = some 1 := if_pos row_none
  rw [h1]
  simp only [h2, h3, h4]
  rfl
/-- the slots at the heads of the loops -/
def V1 (ns : List Int) (O0 : Ow) (Γ : Sg) (O : Ow) : Prop := O = O0 ∧ ∃ g1 g2 g3 g4 g5 g6 g7 : Option D, Γ = [some (.scr (ns.map .int)), g1, g2, g3, g4, g5, g6, g7]
def V2 (ns : List Int) (O0 : Ow) (Γ : Sg) (O : Ow) : Prop := O = O0 ∧ ∃ g1 g3 g4 g5 g6 g7 : Option D, Γ = [some (.scr (ns.map .int)), g1, some .box, g3, g4, g5, g6, g7]
def V3 (ns : List Int) (O0 : Ow) (i : Nat) (Γ : Sg) (O : Ow) : Prop := O = O0 ∧ ∃ (g1 g3 g4 g6 g7 : Option D) (y : Str), Γ = [some (.scr (ns.map .int)), g1, some .box, g3, g4, some (.str y), g6, g7] ∧ Way i y
section
variable {X : Cx} {Γ : Sg} {O : Ow} {k : KD} {kx : KX} {De : DE}
theorem iteNS {x : Str} {A B : Prop} (h : B) : if (!decide (x = x)) = true then A else B := iteF' ne_self h
theorem cols_i {i : Int} (h0 : 0 < i ∧ i < 5) (h : ∀ cs, COk cs → k (.lst (cs.map colD)) O) : sColumns [.box, .int i] O k kx := ⟨i.toNat, by rw [Int.toNat_of_nonneg (by omega)], by omega, by omega, fun cs co _ _ => h cs co⟩
theorem rows_4 {cs : List Col} (co : COk cs) (h : ∀ rs : List (List D), TbOk cs rs → rs.length ≤ 4 → k (.lst (rs.map .tup)) O) : sRows [.box, .lst (cs.map colD), .int 4] O k kx := ⟨cs, 4, rfl, co, by decide, fun rs hz hr => h rs ⟨co, by omega, hr⟩ hz⟩
theorem wc_reprT {d : D} {n m : Nat} (hg : X.A.guards = some []) (hu : X.A.units + 64 < cLine) (s : Shw d n m) (hn : n ≤ 60) (hm : m ≤ 1000000) (h : k (.str d.py.shown) O) : DL.WC X (.builtin "repr") [d] O k := wc_repr hg hu s.py s.sh (Nat.le_trans s.dp hn) (by rw [sizeLine_eq]; have := s.ln; omega) h
end
section
local macro_rules | `(tactic| walk_at "g1") => `(tactic| first
  | (with_reducible refine' iteNS ?_)
  | ((with_reducible refine' cols_i ?h fun cs co => ?_); (case h => exact ⟨by omega, by omega⟩))
  | ((with_reducible refine' we_bm (T := "str") (id := "str.split") PySem.F.plainAttrs_str PySem.F.slot_str_split ?a ?b ?c ?d ?e ?f ?_); (case a => rfl); (case b => rfl); (case c => rfl); (case d => rfl); (case e => rfl); (case f => rfl))
  | ((with_reducible refine' wc_lenS ?h ?_); (case h => assumption))
  | ((with_reducible refine' wc_lenL ?h ?_); (case h => exact sq_lst))
  | walk_at "z1")
local macro_rules | `(tactic| walk_at "gv") => `(tactic| repeat' (walk_at "g1"))
theorem pm_law (h_take : Pm P w K mg base "_law_take" 1 sTake) (h_box : Pm P w K mg base "_law_box" 1 sBox) (h_cols : Pm P w K mg base "_law_columns" 4 sColumns) (h_rows : Pm P w K mg base "_law_rows" 6 sRows) (h_text : Pm P w K mg base "_law_table_text" 2 sTableText)
    (h_spo : Pm P w K mg base "_law_spoilt" 3 sSpoilt) (h_read : Pm P w K mg base "_law_read" 8 sLawRead) (h_tin : Pm P w K mg base "_law_table_in" 3 sTableIn)
    (b_range : mg "range" = none) (b_max : mg "max" = none) (b_min : mg "min" = none) (b_len : mg "len" = none) (b_repr : mg "repr" = none) :
    Pl P w K mg base "law" s_law p_law 9 (sLawE 63) := by
  refine Pl.of sc_law (fun ds O k kx h => by obtain ⟨_, _, h, _⟩ := h; rw [h]; rfl) (fun f cdv A outer s H E hg hr ds O k kx hS => ?_)
  obtain ⟨hO, ns, rfl, hl, hk⟩ := hS
  have hlt : ∀ a od, O a = some od → od.lt := fun a od h => by rw [hO] at h; cases h
  generalize hbb : defBody s_law = bb
  refine with_va (x := "_law_script") (i := 0) ⟨rfl, by walk_at "vis", by decide, by decide⟩ fun va0 => ?_
  refine with_va (x := "_law_k") (i := 1) ⟨rfl, by walk_at "vis", by decide, by decide⟩ fun va1 => ?_
  refine with_va (x := "_law_box_here") (i := 2) ⟨rfl, by walk_at "vis", by decide, by decide⟩ fun va2 => ?_
  refine with_va (x := "_law_turn") (i := 3) ⟨rfl, by walk_at "vis", by decide, by decide⟩ fun va3 => ?_
  refine with_va (x := "_law_columns_here") (i := 4) ⟨rfl, by walk_at "vis", by decide, by decide⟩ fun va4 => ?_
  refine with_va (x := "_law_text") (i := 5) ⟨rfl, by walk_at "vis", by decide, by decide⟩ fun va5 => ?_
  refine with_va (x := "_law_more") (i := 6) ⟨rfl, by walk_at "vis", by decide, by decide⟩ fun va6 => ?_
  refine with_va (x := "_law_is_small") (i := 7) ⟨rfl, by walk_at "vis", by decide, by decide⟩ fun va7 => ?_
  refine with_vs (x := "_law_k") (i := 1) ⟨sc_law.nd, rfl, by walk_at "loc", .inl rfl⟩ fun vs1 => ?_
  refine with_vs (x := "_law_box_here") (i := 2) ⟨sc_law.nd, rfl, by walk_at "loc", .inl rfl⟩ fun vs2 => ?_
  refine with_vs (x := "_law_turn") (i := 3) ⟨sc_law.nd, rfl, by walk_at "loc", .inl rfl⟩ fun vs3 => ?_
  refine with_vs (x := "_law_columns_here") (i := 4) ⟨sc_law.nd, rfl, by walk_at "loc", .inl rfl⟩ fun vs4 => ?_
  refine with_vs (x := "_law_text") (i := 5) ⟨sc_law.nd, rfl, by walk_at "loc", .inl rfl⟩ fun vs5 => ?_
  refine with_vs (x := "_law_more") (i := 6) ⟨sc_law.nd, rfl, by walk_at "loc", .inl rfl⟩ fun vs6 => ?_
  refine with_vs (x := "_law_is_small") (i := 7) ⟨sc_law.nd, rfl, by walk_at "loc", .inl rfl⟩ fun vs7 => ?_
  refine with_bn (x := "max") (id := "max") ⟨rfl, b_max, by decide +kernel, by decide, by decide⟩ fun bn_max => ?_
  refine with_bn (x := "min") (id := "min") ⟨rfl, b_min, by decide +kernel, by decide, by decide⟩ fun bn_min => ?_
  refine with_bn (x := "len") (id := "len") ⟨rfl, b_len, by decide +kernel, by decide, by decide⟩ fun bn_len => ?_
  refine with_bn (x := "repr") (id := "repr") ⟨rfl, b_repr, by decide +kernel, by decide, by decide⟩ fun bn_repr => ?_
  refine with_kn (h_take.kn rfl rfl rfl rfl rfl rfl (by decide)) fun kn_take => ?_
  refine with_kn (h_box.kn rfl rfl rfl rfl rfl rfl (by decide)) fun kn_box => ?_
  refine with_kn (h_cols.kn rfl rfl rfl rfl rfl rfl (by decide)) fun kn_cols => ?_
  refine with_kn (h_rows.kn rfl rfl rfl rfl rfl rfl (by decide)) fun kn_rows => ?_
  refine with_kn (h_text.kn rfl rfl rfl rfl rfl rfl (by decide)) fun kn_text => ?_
  refine with_kn (h_spo.kn rfl rfl rfl rfl rfl rfl (by decide)) fun kn_spo => ?_
  refine with_kn (h_read.kn rfl rfl rfl rfl rfl rfl (by decide)) fun kn_read => ?_
  refine with_kn (h_tin.kn rfl rfl rfl rfl rfl rfl (by decide)) fun kn_tin => ?_
  subst hbb
  walk_at "body"
  (with_reducible refine' ws_cons ?_)
  (with_reducible refine' ws_for PassesOwn.never rfl (fun _ => rfl) ?_)
  (with_reducible refine' it_range1 ?a1 ?b1 ?a2 ?_); (case a1 => rfl); (case b1 => exact b_range); (case a2 => rfl)
  walk_at "gv"
  refine ⟨fun _ Γ' O' => V1 ns O Γ' O', ⟨rfl, _, _, _, _, _, _, _, rfl⟩, fun i d Γ' O' hd hI => ?_, fun Γ' O' hI => ?_⟩
  rotate_left
  · obtain ⟨rfl, g1, g2, g3, g4, g5, g6, g7, rfl⟩ := hI
    walk_at "gv"
    refine ⟨"", rfl, by decide, by decide +kernel, fun l0 ls h => ?_, ?_⟩
    · rw [show Txt.split "" "\n" = ([""] : List Str) by decide +kernel] at h
      cases h
      decide +kernel
    rw [tab_none, show tabRes (.inl 0) = .int 0 from rfl]
    walk_at "gv"
    refine ⟨"a text\n", rfl, by decide, by decide +kernel, fun l0 ls h => ?_, ?_⟩
    · rw [show Txt.split "a text\n" "\n" = (["a text", ""] : List Str) by decide +kernel] at h
      cases h
      decide +kernel
    rw [tab_bare, show tabRes (.inl 1) = .int 1 from rfl]
    walk_at "gv"
    rw [decide_eq_true rfl]
    exact Ret.of (hk _)
  obtain ⟨rfl, g1, g2, g3, g4, g5, g6, g7, rfl⟩ := hI
  obtain ⟨j, rfl⟩ := rng_el hd
  walk_at "gv"
  refine ⟨ns, j, rfl, ?_⟩
  (with_reducible refine' wss_slots (Γ' := [_, _, _, _, _, _, _, _]) ?e ?_); (case e => rfl)
  (with_reducible refine' ws_one ?_)
  (with_reducible refine' ws_for PassesOwn.never rfl (fun _ => rfl) ?_)
  (with_reducible refine' it_range1 ?a1 ?b1 ?a2 ?_); (case a1 => rfl); (case b1 => exact b_range); (case a2 => rfl)
  walk_at "gv"
  refine ⟨fun _ Γ' O2 => V2 ns O' Γ' O2, ⟨rfl, _, _, _, _, _, _, rfl⟩, fun i d Γ' O2 hd2 hI => ?_, fun Γ' O2 hI => ?_⟩
  rotate_left
  · obtain ⟨rfl, g1, g3, g4, g5, g6, g7, rfl⟩ := hI
    exact ⟨rfl, _, _, _, _, _, _, _, rfl⟩
  obtain ⟨rfl, g1, g3, g4, g5, g6, g7, rfl⟩ := hI
  obtain ⟨j2, rfl⟩ := rng_el hd2
  walk_at "gv"
  rename_i cs co
  refine rows_4 co fun rs ok hrs => ?_
  walk_at "gv"
  refine ⟨cs, rs, rfl, ok, ?_⟩
  walk_at "gv"
  (with_reducible refine' ws_for PassesOwn.never rfl (fun _ => rfl) ?_)
  (with_reducible refine' it_range1 ?a1 ?b1 ?a2 ?_); (case a1 => rfl); (case b1 => exact b_range); (case a2 => rfl)
  walk_at "gv"
  rename_i t t0 t1
  refine ⟨fun i Γ' O3 => V3 ns O2 i Γ' O3, ⟨rfl, _, _, _, _, _, _, rfl, way_0 ok hrs⟩, fun i d Γ' O3 hd3 hI => ?_, fun Γ' O3 hI => ?_⟩
  · obtain ⟨rfl, h1, h3, h4, h6, h7, y, rfl, hw⟩ := hI
    obtain ⟨j3, rfl⟩ := rng_el hd3
    have hi := rng_lt hd3
    have h2 : 2 ^ i ≤ 2 ^ 2 := Nat.pow_le_pow_right (by decide) (by omega)
    have hln := hw.ln
    walk_at "gv"
    refine ⟨y, rfl, by omega, hw.ok, fun y2 u q1 q2 => ?_⟩
    walk_at "gv"
    exact ⟨rfl, _, _, _, _, _, _, rfl, way_s hw q1 q2⟩
  · obtain ⟨rfl, h1, h3, h4, h6, h7, y, rfl, hw⟩ := hI
    rw [rngD_len] at hw
    have h2 : 2 ^ (1 + t).toNat ≤ 2 ^ 3 := Nat.pow_le_pow_right (by decide) (by omega)
    have hln := hw.ln
    have hnl := hw.nl
    have hok := hw.ok
    have hyl : y.length ≤ sizeLine := by rw [sizeLine_eq]; omega
    walk_at "gv"
    rotate_left
    · exact ⟨rfl, _, _, _, _, _, _, rfl⟩
    have hy1 : y.length ≤ 1000 := by omega
    have hcnt := mu_lines y
    have hne := split_nn (z := y) sp_line
    have hmem : ∀ x ∈ Txt.split y "\n", x.length ≤ y.length := fun x hx => split_mem sp_line hx
    have hn : (Txt.split y "\n").length ≤ 101 := by omega
    refine wm_split (by decide +kernel) (split_room (by omega)) ?_
    cases hsp : Txt.split y "\n" with
    | nil => exact absurd hsp hne
    | cons l0 ls =>
      have hl0 := hmem l0 (by rw [hsp]; exact List.mem_cons_self)
      walk_at "gv"
      refine wi_list sq_lst (atI_nat (j := 0) rfl) ?_
      walk_at "gv"
      refine wm_split (by decide +kernel) (split_room (by omega)) ?_
      walk_at "gv"
      rotate_left
      · exact ⟨rfl, _, _, _, _, _, _, rfl⟩
      rename_i h5
      have h10 : ∀ a b, Txt.split y "\n" = a :: b → (Txt.split a ", ").length ≤ 10 := fun a b e => by
        rw [hsp] at e
        cases e
        rw [List.length_map] at h5
        omega
      have hsh := shw_tab hy1 hn h10
      refine ⟨y, rfl, hy1, hn, h10, ?_⟩
      walk_at "gv"
      ((with_reducible refine' wc_reprT ?r1 ?r2 hsh ?r3 ?r4 ?_); (case r1 => exact hg); (case r2 => exact hr.units); (case r3 => decide); (case r4 => decide))
      walk_at "gv"
      refine ⟨y, rfl, hlt, hy1, hok, hn, h10, ?_⟩
      walk_at "gv"
      ((with_reducible refine' wc_reprT ?r1 ?r2 hsh ?r3 ?r4 ?_); (case r1 => exact hg); (case r2 => exact hr.units); (case r3 => decide); (case r4 => decide))
      walk_at "gv"
      exact ⟨rfl, _, _, _, _, _, _, rfl⟩
end
/-! ### the exception classes, as the written part tells of them -/
inductive DnE (K : PySem.W.Frag) (C : Addr) (qual : Str) (st : Stmt) : Prop
  | mk {f : Addr} {oc : Value} {od an : Option Addr} {osl : Array (Option Value)} {kV doc pm cdv ct : Value} (a : PySem.W.findIn K (.ref C) "__init__" = some (some (.ref f))) (t : PySem.W.typeIn K (.ref f) = some (.type "function"))
    (l : K.lookup f = some ⟨oc, od, .func (PySem.W.fnOf "__init__" qual (defArgs st) (defBody st) (defScope st) .none kV doc pm an cdv ct), osl⟩) (c : PySem.W.codeIn K cdv qual = true) (k : PySem.W.keepIn K (.ref f) = true) : DnE K C qual st
/-- all that is to be known of an own exception class -/
structure EcC (K : PySem.W.Frag) (C : Addr) : Prop where
  ox : OexC K C
  xf : XfC K C
  xc : ExcC K C
  ic : PySem.W.isClsIn K C = true ∧ PySem.W.subIn K (.ref C) (.ref C) = some true
theorem cls_some {K : PySem.W.Frag} {C : Addr} (h : PySem.W.isClsIn K C = true) : (PySem.W.clsIn K C).isSome = true := h
theorem kit_cls2 {K : PySem.W.Frag} {C D : Addr} {b : Bool} (ic : PySem.W.isClsIn K D = true) (t : PySem.W.typeIn K (.ref D) = some (.type "type")) (s : PySem.W.subIn K (.ref C) (.ref D) = some b) : PySem.W.kitCls K (.ref C) (.ref D) = some b := by
  unfold PySem.W.kitCls
  simp only []
  rw [cls_some ic, t, if_pos (by decide)]
  exact s
theorem EcC.xm {K : PySem.W.Frag} {C : Addr} (e : EcC K C) : PySem.W.exmOne K (.ref C) (.ref C) = some true := by
  unfold PySem.W.exmOne
  rw [e.ox.exC, if_pos (by decide)]
  exact kit_cls2 e.ic.1 e.ox.tyC e.ic.2
theorem kit_one2 {K : PySem.W.Frag} {C D : Addr} {b : Bool} (hb : ((Value.ref C == Value.ref D) = true) → b = true) (ic : PySem.W.isClsIn K D = true) (t : PySem.W.typeIn K (.ref D) = some (.type "type")) (s : PySem.W.subIn K (.ref C) (.ref D) = some b) : PySem.W.kitOne K (.ref C) (.ref D) = some b := by
  unfold PySem.W.kitOne
  split
  · rename_i h
    rw [hb h]
  · exact kit_cls2 ic t s
theorem kit_yes {K : PySem.W.Frag} {C D : Addr} (ic : PySem.W.isClsIn K D = true) (t : PySem.W.typeIn K (.ref D) = some (.type "type")) (s : PySem.W.subIn K (.ref C) (.ref D) = some true) : PySem.W.kitOne K (.ref C) (.ref D) = some true := by
  unfold PySem.W.kitOne
  split
  · rfl
  · exact kit_cls2 ic t s
theorem kit_no {K : PySem.W.Frag} {C D : Addr} (ss : PySem.W.subIn K (.ref D) (.ref D) = some true) (ic : PySem.W.isClsIn K D = true) (t : PySem.W.typeIn K (.ref D) = some (.type "type")) (s : PySem.W.subIn K (.ref C) (.ref D) = some false) : PySem.W.kitOne K (.ref C) (.ref D) = some false := by
  unfold PySem.W.kitOne
  have e : (Value.ref C == Value.ref D) = false := by
    cases h : (Value.ref C == Value.ref D) with
    | false => rfl
    | true =>
      have e2 : C = D := by
        have := eq_of_beq h
        cases this
        rfl
      rw [e2, ss] at s
      cases s
  rw [e, if_neg (by decide)]
  exact kit_cls2 ic t s
theorem pe_g {K : PySem.W.Frag} {mg : Str → Option Value} {x f qual : Str} {C : Addr} {st : Stmt} (e : ExCl K C f qual st) (hx : mg x = some (.ref C)) : PeG K mg x C f := ⟨⟨_, _, e⟩, hx⟩
/-! ### all together -/
theorem all13 {l : PySem.W.OpenLaw} {w : World} {K : PySem.W.Frag} {h : Heap} {mg : Str → Option Value} {fa C : Addr} (X : K.In h) (G : h.Ns mainGlobals mg) (hfa : mg "law" = some (.ref fa))
    (d_is_sequence : Dn K "is_sequence" s_is_sequence)
    (d_is_name : Dn K "is_name" s_is_name)
    (d_is_text : Dn K "is_text" s_is_text)
    (d_is_number : Dn K "is_number" s_is_number)
    (d_is_sort : Dn K "is_sort" s_is_sort)
    (d_is_cell : Dn K "is_cell" s_is_cell)
    (d_is_column : Dn K "is_column" s_is_column)
    (d_are_columns : Dn K "are_columns" s_are_columns)
    (d_is_quoted : Dn K "is_quoted" s_is_quoted)
    (d_is_decimal : Dn K "is_decimal" s_is_decimal)
    (d_read_cell : Dn K "read_cell" s_read_cell)
    (d_first_wrong : Dn K "_first_wrong" s__first_wrong)
    (d_are_cells : Dn K "_are_cells" s__are_cells)
    (d_read_columns : Dn K "_read_columns" s__read_columns)
    (d_read_row : Dn K "_read_row" s__read_row)
    (d_law_take : Dn K "_law_take" s__law_take)
    (d_law_box : Dn K "_law_box" s__law_box)
    (d_law_pick : Dn K "_law_pick" s__law_pick)
    (d_law_shuffled : Dn K "_law_shuffled" s__law_shuffled)
    (d_law_names : Dn K "_law_names" s__law_names)
    (d_law_word : Dn K "_law_word" s__law_word)
    (d_law_number : Dn K "_law_number" s__law_number)
    (d_law_cell : Dn K "_law_cell" s__law_cell)
    (d_law_bare : Dn K "_law_bare" s__law_bare)
    (d_law_columns : Dn K "_law_columns" s__law_columns)
    (d_law_row : Dn K "_law_row" s__law_row)
    (d_law_rows : Dn K "_law_rows" s__law_rows)
    (d_law_cell_text : Dn K "_law_cell_text" s__law_cell_text)
    (d_law_line_of : Dn K "_law_line_of" s__law_line_of)
    (d_law_table_text : Dn K "_law_table_text" s__law_table_text)
    (d_law_name_in : Dn K "_law_name_in" s__law_name_in)
    (d_law_cell_in : Dn K "_law_cell_in" s__law_cell_in)
    (d_law_table_in : Dn K "_law_table_in" s__law_table_in)
    (d_law_spoilt : Dn K "_law_spoilt" s__law_spoilt)
    (d_law_read : Dn K "_law_read" s__law_read)
    (d_law : Dn K "law" s_law) (aC : PySem.W.nsIn K mainGlobals "Table" = some (some (.ref C))) (d_init : Dni K C "Table.__init__" s_Table___init__ 1)
    {u_LOWER : Value} (a_LOWER : PySem.W.nsIn K mainGlobals "LOWER" = some (some u_LOWER)) (w_LOWER : Wr K u_LOWER (.str lowS))
    {u_LETTERS : Value} (a_LETTERS : PySem.W.nsIn K mainGlobals "LETTERS" = some (some u_LETTERS)) (w_LETTERS : Wr K u_LETTERS (.str letS))
    {u_DIGITS : Value} (a_DIGITS : PySem.W.nsIn K mainGlobals "DIGITS" = some (some u_DIGITS)) (w_DIGITS : Wr K u_DIGITS (.str digS))
    {u_BARRED : Value} (a_BARRED : PySem.W.nsIn K mainGlobals "BARRED" = some (some u_BARRED)) (w_BARRED : Wr K u_BARRED barD)
    {u_LONGEST_NAME : Value} (a_LONGEST_NAME : PySem.W.nsIn K mainGlobals "LONGEST_NAME" = some (some u_LONGEST_NAME)) (w_LONGEST_NAME : Wr K u_LONGEST_NAME (.int 4))
    {u_LONGEST_TEXT : Value} (a_LONGEST_TEXT : PySem.W.nsIn K mainGlobals "LONGEST_TEXT" = some (some u_LONGEST_TEXT)) (w_LONGEST_TEXT : Wr K u_LONGEST_TEXT (.int 10))
    {u_LARGEST : Value} (a_LARGEST : PySem.W.nsIn K mainGlobals "LARGEST" = some (some u_LARGEST)) (w_LARGEST : Wr K u_LARGEST (.int 1000000))
    {u_MOST_DIGITS : Value} (a_MOST_DIGITS : PySem.W.nsIn K mainGlobals "MOST_DIGITS" = some (some u_MOST_DIGITS)) (w_MOST_DIGITS : Wr K u_MOST_DIGITS (.int 7))
    (c : TC K C)
    (z_range : PySem.W.nsIn K mainGlobals "range" = some none)
    (z_max : PySem.W.nsIn K mainGlobals "max" = some none)
    (z_min : PySem.W.nsIn K mainGlobals "min" = some none)
    (z_len : PySem.W.nsIn K mainGlobals "len" = some none)
    (z_abs : PySem.W.nsIn K mainGlobals "abs" = some none)
    (z_int : PySem.W.nsIn K mainGlobals "int" = some none)
    (z_str : PySem.W.nsIn K mainGlobals "str" = some none)
    (z_bool : PySem.W.nsIn K mainGlobals "bool" = some none)
    (z_isinstance : PySem.W.nsIn K mainGlobals "isinstance" = some none)
    (z_zip : PySem.W.nsIn K mainGlobals "zip" = some none)
    (z_all : PySem.W.nsIn K mainGlobals "all" = some none)
    (z_list : PySem.W.nsIn K mainGlobals "list" = some none)
    (z_tuple : PySem.W.nsIn K mainGlobals "tuple" = some none)
    (z_set : PySem.W.nsIn K mainGlobals "set" = some none)
    (z_repr : PySem.W.nsIn K mainGlobals "repr" = some none)
    (z_enumerate : PySem.W.nsIn K mainGlobals "enumerate" = some none)
    {CT PE CI : Addr} (dR : DnC K C "read" "Table.read" s_Table_read)
    (aT : PySem.W.nsIn K mainGlobals "InvalidText" = some (some (.ref CT))) (aP : PySem.W.nsIn K mainGlobals "PartError" = some (some (.ref PE))) (aI : PySem.W.nsIn K mainGlobals "InvalidTable" = some (some (.ref CI)))
    (E5 : ExCl K CT "at" "InvalidText.__init__" s_InvalidText___init__) (ec : EcC K CT) (no : PySem.W.findIn K (.ref CT) "at" = some none)
    (pI : PySem.W.isClsIn K PE = true) (pT : PySem.W.typeIn K (.ref PE) = some (.type "type")) (pS : PySem.W.subIn K (.ref CT) (.ref PE) = some true) (tI : PySem.W.isClsIn K CI = true) (tT : PySem.W.typeIn K (.ref CI) = some (.type "type")) (tS : PySem.W.subIn K (.ref CT) (.ref CI) = some false) (tN : PySem.W.subIn K (.ref CI) (.ref CI) = some true)
    : ∃ fd : FuncData, (∀ (s : Shared) (u : Value), BindsTo s fd ⟨[u], []⟩ [("_law_script", u)]) ∧ ∀ base : Heap, K.In base → base.Ns mainGlobals mg → FnG l.prog w K mg base CX0 9 fa fd ["_law_script"] (spOf K (sLaw 63)) := by
  have b_range := PySem.W.mg_none_of X G z_range
  have b_max := PySem.W.mg_none_of X G z_max
  have b_min := PySem.W.mg_none_of X G z_min
  have b_len := PySem.W.mg_none_of X G z_len
  have b_abs := PySem.W.mg_none_of X G z_abs
  have b_int := PySem.W.mg_none_of X G z_int
  have b_str := PySem.W.mg_none_of X G z_str
  have b_bool := PySem.W.mg_none_of X G z_bool
  have b_isinstance := PySem.W.mg_none_of X G z_isinstance
  have b_zip := PySem.W.mg_none_of X G z_zip
  have b_all := PySem.W.mg_none_of X G z_all
  have b_list := PySem.W.mg_none_of X G z_list
  have b_tuple := PySem.W.mg_none_of X G z_tuple
  have b_set := PySem.W.mg_none_of X G z_set
  have b_repr := PySem.W.mg_none_of X G z_repr
  have b_enumerate := PySem.W.mg_none_of X G z_enumerate
  have e_is_sequence := d_is_sequence.df X G (ps := p_is_sequence) fun _ _ _ _ _ _ us hl => match us, hl with | [_], _ => rfl
  have e_is_name := d_is_name.df X G (ps := p_is_name) fun _ _ _ _ _ _ us hl => match us, hl with | [_], _ => rfl
  have e_is_text := d_is_text.df X G (ps := p_is_text) fun _ _ _ _ _ _ us hl => match us, hl with | [_], _ => rfl
  have e_is_number := d_is_number.df X G (ps := p_is_number) fun _ _ _ _ _ _ us hl => match us, hl with | [_], _ => rfl
  have e_is_sort := d_is_sort.df X G (ps := p_is_sort) fun _ _ _ _ _ _ us hl => match us, hl with | [_], _ => rfl
  have e_is_cell := d_is_cell.df X G (ps := p_is_cell) fun _ _ _ _ _ _ us hl => match us, hl with | [_, _], _ => rfl
  have e_is_column := d_is_column.df X G (ps := p_is_column) fun _ _ _ _ _ _ us hl => match us, hl with | [_], _ => rfl
  have e_are_columns := d_are_columns.df X G (ps := p_are_columns) fun _ _ _ _ _ _ us hl => match us, hl with | [_], _ => rfl
  have e_is_quoted := d_is_quoted.df X G (ps := p_is_quoted) fun _ _ _ _ _ _ us hl => match us, hl with | [_], _ => rfl
  have e_is_decimal := d_is_decimal.df X G (ps := p_is_decimal) fun _ _ _ _ _ _ us hl => match us, hl with | [_], _ => rfl
  have e_read_cell := d_read_cell.df X G (ps := p_read_cell) fun _ _ _ _ _ _ us hl => match us, hl with | [_, _, _], _ => rfl
  have e_first_wrong := d_first_wrong.df X G (ps := p__first_wrong) fun _ _ _ _ _ _ us hl => match us, hl with | [_, _], _ => rfl
  have e_are_cells := d_are_cells.df X G (ps := p__are_cells) fun _ _ _ _ _ _ us hl => match us, hl with | [_, _], _ => rfl
  have e_read_columns := d_read_columns.df X G (ps := p__read_columns) fun _ _ _ _ _ _ us hl => match us, hl with | [_], _ => rfl
  have e_read_row := d_read_row.df X G (ps := p__read_row) fun _ _ _ _ _ _ us hl => match us, hl with | [_, _, _], _ => rfl
  have e_law_take := d_law_take.df X G (ps := p__law_take) fun _ _ _ _ _ _ us hl => match us, hl with | [_, _], _ => rfl
  have e_law_box := d_law_box.df X G (ps := p__law_box) fun _ _ _ _ _ _ us hl => match us, hl with | [_, _], _ => rfl
  have e_law_pick := d_law_pick.df X G (ps := p__law_pick) fun _ _ _ _ _ _ us hl => match us, hl with | [_, _], _ => rfl
  have e_law_shuffled := d_law_shuffled.df X G (ps := p__law_shuffled) fun _ _ _ _ _ _ us hl => match us, hl with | [_, _], _ => rfl
  have e_law_names := d_law_names.df X G (ps := p__law_names) fun _ _ _ _ _ _ us hl => match us, hl with | [_, _], _ => rfl
  have e_law_word := d_law_word.df X G (ps := p__law_word) fun _ _ _ _ _ _ us hl => match us, hl with | [_], _ => rfl
  have e_law_number := d_law_number.df X G (ps := p__law_number) fun _ _ _ _ _ _ us hl => match us, hl with | [_], _ => rfl
  have e_law_cell := d_law_cell.df X G (ps := p__law_cell) fun _ _ _ _ _ _ us hl => match us, hl with | [_, _], _ => rfl
  have e_law_bare := d_law_bare.df X G (ps := p__law_bare) fun _ _ _ _ _ _ us hl => match us, hl with | [_], _ => rfl
  have e_law_columns := d_law_columns.df X G (ps := p__law_columns) fun _ _ _ _ _ _ us hl => match us, hl with | [_, _], _ => rfl
  have e_law_row := d_law_row.df X G (ps := p__law_row) fun _ _ _ _ _ _ us hl => match us, hl with | [_, _], _ => rfl
  have e_law_rows := d_law_rows.df X G (ps := p__law_rows) fun _ _ _ _ _ _ us hl => match us, hl with | [_, _, _], _ => rfl
  have e_law_cell_text := d_law_cell_text.df X G (ps := p__law_cell_text) fun _ _ _ _ _ _ us hl => match us, hl with | [_], _ => rfl
  have e_law_line_of := d_law_line_of.df X G (ps := p__law_line_of) fun _ _ _ _ _ _ us hl => match us, hl with | [_], _ => rfl
  have e_law_table_text := d_law_table_text.df X G (ps := p__law_table_text) fun _ _ _ _ _ _ us hl => match us, hl with | [_, _], _ => rfl
  have e_law_name_in := d_law_name_in.df X G (ps := p__law_name_in) fun _ _ _ _ _ _ us hl => match us, hl with | [_], _ => rfl
  have e_law_cell_in := d_law_cell_in.df X G (ps := p__law_cell_in) fun _ _ _ _ _ _ us hl => match us, hl with | [_], _ => rfl
  have e_law_table_in := d_law_table_in.df X G (ps := p__law_table_in) fun _ _ _ _ _ _ us hl => match us, hl with | [_], _ => rfl
  have e_law_spoilt := d_law_spoilt.df X G (ps := p__law_spoilt) fun _ _ _ _ _ _ us hl => match us, hl with | [_, _], _ => rfl
  have e_law_read := d_law_read.df X G (ps := p__law_read) fun _ _ _ _ _ _ us hl => match us, hl with | [_], _ => rfl
  have e_init := d_init.di (ps := p_Table___init__) fun T its _ _ _ _ _ _ us hz hl => by
    obtain ⟨its⟩ := its
    exact match us, hl, its, hz with
    | [_, _, _], _, [_], _ => ⟨_, rfl, rfl⟩
  refine law_end X G hfa d_law (fun _ _ _ _ _ _ _ => rfl) fun base _ _ => ?_
  have h_take : Pm l.prog w K mg base "_law_take" 1 sTake := pm_take e_law_take b_int
  have h_box : Pm l.prog w K mg base "_law_box" 1 sBox := pm_box e_law_box b_int b_len b_abs
  have h_pick : Pm l.prog w K mg base "_law_pick" 2 sPick := pm_pick e_law_pick h_take b_len
  have h_seq : Pm l.prog w K mg base "is_sequence" 1 sIsSeq := pm_isSeq e_is_sequence b_isinstance b_list b_tuple
  have h_name : Pm l.prog w K mg base "is_name" 1 sIsName := pm_isName e_is_name b_isinstance b_str b_len b_all (gl_mk X G a_LOWER w_LOWER) (gl_mk X G a_LONGEST_NAME w_LONGEST_NAME) (gl_mk X G a_BARRED w_BARRED)
  have h_text : Pm l.prog w K mg base "is_text" 1 sIsText := pm_isText e_is_text b_isinstance b_str b_len b_all (gl_mk X G a_LETTERS w_LETTERS) (gl_mk X G a_LONGEST_TEXT w_LONGEST_TEXT)
  have h_num : Pm l.prog w K mg base "is_number" 1 sIsNum := pm_isNum e_is_number b_isinstance b_int b_bool (gl_mk X G a_LARGEST w_LARGEST)
  have h_sort : Pm l.prog w K mg base "is_sort" 1 sIsSort := pm_isSort e_is_sort b_isinstance b_str
  have h_col : Pm l.prog w K mg base "is_column" 2 sIsCol := pm_isCol e_is_column h_name h_sort b_isinstance b_tuple b_len
  have h_cols : Pm l.prog w K mg base "are_columns" 3 sAreCols := pm_areCols e_are_columns h_seq h_col b_len b_all b_set
  have h_cell : Pm l.prog w K mg base "is_cell" 2 sIsCell := pm_isCell e_is_cell h_text h_num
  have h_cells : Pm l.prog w K mg base "_are_cells" 3 sAreCells := pm_areCells e_are_cells h_cell b_all b_zip
  have h_first : Pm l.prog w K mg base "_first_wrong" 4 sFirstT := pm_firstT e_first_wrong h_seq h_cols h_cells b_all b_len
  have h_tab : Pc l.prog w K mg base "Table" C 5 (sTab C) := pm_tab e_init (PySem.W.mg_of X G aC) c h_first b_tuple
  
  have gC : GlD K mg "Table" (.own C) := gl_mk X G aC ⟨.ref C, rfl, fun _ => .own C⟩
  have m_it : mg "InvalidText" = some (.ref CT) := PySem.W.mg_of X G aT
  have g_it : PeG K mg "InvalidText" CT "at" := pe_g E5 m_it
  have xc : XC K CT PE CI := ⟨ec.xm, kit_yes pI pT pS, kit_no tN tI tT tS, ec.xf, no, ec.xc⟩
  have h_quot : Pm l.prog w K mg base "is_quoted" 2 sIsQuot := pm_isQuot e_is_quoted h_text b_len
  have h_dec : Pm l.prog w K mg base "is_decimal" 2 sIsDec := pm_isDec e_is_decimal h_num (gl_mk X G a_DIGITS w_DIGITS) (gl_mk X G a_MOST_DIGITS w_MOST_DIGITS) b_len b_all b_int b_str
  have h_rcell : PmX l.prog w K mg base "read_cell" 3 (sReadCellX CT) := pm_readCellX e_read_cell h_quot h_dec b_int g_it
  have h_rcols : PmX l.prog w K mg base "_read_columns" 4 (sReadColsX CT) := pm_readColsX e_read_columns h_cols b_tuple g_it
  have h_rrow : PmX l.prog w K mg base "_read_row" 4 (sReadRowX CT) := pm_readRowX e_read_row h_rcell b_len b_zip g_it
  have h_read : Pcm l.prog w K mg base C "read" 7 (sTReadX C CT) := pm_treadX dR h_rcols h_rrow h_tab b_enumerate
  have h_lread : Pm l.prog w K mg base "_law_read" 8 sLawRead := pm_lawRead e_law_read c h_read xc gC m_it (gl_mk X G aP ⟨.ref PE, rfl, fun _ => .own PE⟩) (gl_mk X G aI ⟨.ref CI, rfl, fun _ => .own CI⟩) b_isinstance b_list
  have h_word : Pm l.prog w K mg base "_law_word" 3 sWord := pm_word e_law_word h_take h_pick b_range
  have h_number : Pm l.prog w K mg base "_law_number" 2 sNumber := pm_number e_law_number h_take
  have h_lcell : Pm l.prog w K mg base "_law_cell" 4 sCell := pm_cell e_law_cell h_take h_word h_number
  have h_shuf : Pm l.prog w K mg base "_law_shuffled" 2 sShuf := pm_shuf e_law_shuffled h_take b_list b_len b_range
  have h_names : Pm l.prog w K mg base "_law_names" 3 sNames := pm_names e_law_names h_take h_shuf b_int b_range
  have h_lcols : Pm l.prog w K mg base "_law_columns" 4 sColumns := pm_columns e_law_columns h_names h_pick
  have h_row : Pm l.prog w K mg base "_law_row" 5 sRow := pm_row e_law_row h_lcell b_tuple
  have h_rows : Pm l.prog w K mg base "_law_rows" 6 sRows := pm_rows e_law_rows h_take h_pick h_row b_range
  have h_lct : Pm l.prog w K mg base "_law_cell_text" 1 sLCellTxt := pm_lcellTxt e_law_cell_text b_isinstance b_str
  have h_line : Pm l.prog w K mg base "_law_line_of" 1 sLineOf := pm_lineOf e_law_line_of
  have h_tt : Pm l.prog w K mg base "_law_table_text" 2 sTableText := pm_tableText e_law_table_text h_line h_lct
  have h_bare : Pm l.prog w K mg base "_law_bare" 1 sBare := pm_bare e_law_bare
  have h_nin : Pm l.prog w K mg base "_law_name_in" 1 sNameIn := pm_nameIn e_law_name_in b_len
  have h_cin : Pm l.prog w K mg base "_law_cell_in" 2 sCellIn := pm_cellIn e_law_cell_in h_bare b_len b_int
  have h_tin : Pm l.prog w K mg base "_law_table_in" 3 sTableIn := pm_tableIn e_law_table_in h_nin h_cin b_len b_enumerate b_zip b_tuple b_isinstance b_str
  have h_spo : Pm l.prog w K mg base "_law_spoilt" 3 sSpoilt := pm_spoilt e_law_spoilt h_take h_pick b_len b_list
  exact Pl.noO (pm_law h_take h_box h_lcols h_rows h_tt h_spo h_lread h_tin b_range b_max b_min b_len b_repr)
end
end Lw
open PySem PySem.W
open PyProof.Rows
local macro_rules | `(tactic| walk_at "wr") => `(tactic| first
  | exact DL.WrL.nil
  | refine DL.WrL.cons ?_ ?_
  | exact DL.wr_str
  | exact DL.wr_int
  | exact DL.wr_bl
  | (refine' DL.wr_tup ?l ?e ?z ?h; (case l => k_is); (case e => exact rfl); (case z => rfl)))
set_option maxRecDepth 99000 in
set_option maxHeartbeats 0 in
theorem PySem.Challenge.cw_sentparts_k13_texts_of_no_table_holds : PySem.Challenge.rw_sentparts_k13_texts_of_no_table.Holds := by
  w_on; o_law
  k_head
  (case hw => w_witness2)
  k_fill
  refine DL.walkG (l := PySem.Challenge.rw_sentparts_k13_texts_of_no_table) (n := 63) (j := 9) (x := "_law_script") rfl (by decide) rfl ⟨rfl, by decide, by decide⟩ (fun w h Y => PySem.W.kIn_of Y) ?F
  case F =>
    intro w mg fa h KX G hmg
    refine' Lw.all13 KX G hmg ?d_is_sequence ?d_is_name ?d_is_text ?d_is_number ?d_is_sort ?d_is_cell ?d_is_column ?d_are_columns ?d_is_quoted ?d_is_decimal ?d_read_cell ?d_first_wrong ?d_are_cells ?d_read_columns ?d_read_row ?d_law_take ?d_law_box ?d_law_pick ?d_law_shuffled ?d_law_names ?d_law_word ?d_law_number ?d_law_cell ?d_law_bare ?d_law_columns ?d_law_row ?d_law_rows ?d_law_cell_text ?d_law_line_of ?d_law_table_text ?d_law_name_in ?d_law_cell_in ?d_law_table_in ?d_law_spoilt ?d_law_read ?d_law ?aC ?d_init ?a_LOWER ?w_LOWER ?a_LETTERS ?w_LETTERS ?a_DIGITS ?w_DIGITS ?a_BARRED ?w_BARRED ?a_LONGEST_NAME ?w_LONGEST_NAME ?a_LONGEST_TEXT ?w_LONGEST_TEXT ?a_LARGEST ?w_LARGEST ?a_MOST_DIGITS ?w_MOST_DIGITS ?c ?z_range ?z_max ?z_min ?z_len ?z_abs ?z_int ?z_str ?z_bool ?z_isinstance ?z_zip ?z_all ?z_list ?z_tuple ?z_set ?z_repr ?z_enumerate ?dR ?aT ?aP ?aI ?E5 ?ec ?no ?pI ?pT ?pS ?tI ?tT ?tS ?tN
    (case d_is_sequence => refine' DL.Dn.mk ?a_1 ?l_1 ?c_1 ?k_1; (case a_1 => k_is); (case l_1 => k_is); (case c_1 => k_is); (case k_1 => k_is))
    (case d_is_name => refine' DL.Dn.mk ?a_2 ?l_2 ?c_2 ?k_2; (case a_2 => k_is); (case l_2 => k_is); (case c_2 => k_is); (case k_2 => k_is))
    (case d_is_text => refine' DL.Dn.mk ?a_3 ?l_3 ?c_3 ?k_3; (case a_3 => k_is); (case l_3 => k_is); (case c_3 => k_is); (case k_3 => k_is))
    (case d_is_number => refine' DL.Dn.mk ?a_4 ?l_4 ?c_4 ?k_4; (case a_4 => k_is); (case l_4 => k_is); (case c_4 => k_is); (case k_4 => k_is))
    (case d_is_sort => refine' DL.Dn.mk ?a_5 ?l_5 ?c_5 ?k_5; (case a_5 => k_is); (case l_5 => k_is); (case c_5 => k_is); (case k_5 => k_is))
    (case d_is_cell => refine' DL.Dn.mk ?a_6 ?l_6 ?c_6 ?k_6; (case a_6 => k_is); (case l_6 => k_is); (case c_6 => k_is); (case k_6 => k_is))
    (case d_is_column => refine' DL.Dn.mk ?a_7 ?l_7 ?c_7 ?k_7; (case a_7 => k_is); (case l_7 => k_is); (case c_7 => k_is); (case k_7 => k_is))
    (case d_are_columns => refine' DL.Dn.mk ?a_8 ?l_8 ?c_8 ?k_8; (case a_8 => k_is); (case l_8 => k_is); (case c_8 => k_is); (case k_8 => k_is))
    (case d_is_quoted => refine' DL.Dn.mk ?a_9 ?l_9 ?c_9 ?k_9; (case a_9 => k_is); (case l_9 => k_is); (case c_9 => k_is); (case k_9 => k_is))
    (case d_is_decimal => refine' DL.Dn.mk ?a_10 ?l_10 ?c_10 ?k_10; (case a_10 => k_is); (case l_10 => k_is); (case c_10 => k_is); (case k_10 => k_is))
    (case d_read_cell => refine' DL.Dn.mk ?a_11 ?l_11 ?c_11 ?k_11; (case a_11 => k_is); (case l_11 => k_is); (case c_11 => k_is); (case k_11 => k_is))
    (case d_first_wrong => refine' DL.Dn.mk ?a_12 ?l_12 ?c_12 ?k_12; (case a_12 => k_is); (case l_12 => k_is); (case c_12 => k_is); (case k_12 => k_is))
    (case d_are_cells => refine' DL.Dn.mk ?a_13 ?l_13 ?c_13 ?k_13; (case a_13 => k_is); (case l_13 => k_is); (case c_13 => k_is); (case k_13 => k_is))
    (case d_read_columns => refine' DL.Dn.mk ?a_14 ?l_14 ?c_14 ?k_14; (case a_14 => k_is); (case l_14 => k_is); (case c_14 => k_is); (case k_14 => k_is))
    (case d_read_row => refine' DL.Dn.mk ?a_15 ?l_15 ?c_15 ?k_15; (case a_15 => k_is); (case l_15 => k_is); (case c_15 => k_is); (case k_15 => k_is))
    (case d_law_take => refine' DL.Dn.mk ?a_16 ?l_16 ?c_16 ?k_16; (case a_16 => k_is); (case l_16 => k_is); (case c_16 => k_is); (case k_16 => k_is))
    (case d_law_box => refine' DL.Dn.mk ?a_17 ?l_17 ?c_17 ?k_17; (case a_17 => k_is); (case l_17 => k_is); (case c_17 => k_is); (case k_17 => k_is))
    (case d_law_pick => refine' DL.Dn.mk ?a_18 ?l_18 ?c_18 ?k_18; (case a_18 => k_is); (case l_18 => k_is); (case c_18 => k_is); (case k_18 => k_is))
    (case d_law_shuffled => refine' DL.Dn.mk ?a_19 ?l_19 ?c_19 ?k_19; (case a_19 => k_is); (case l_19 => k_is); (case c_19 => k_is); (case k_19 => k_is))
    (case d_law_names => refine' DL.Dn.mk ?a_20 ?l_20 ?c_20 ?k_20; (case a_20 => k_is); (case l_20 => k_is); (case c_20 => k_is); (case k_20 => k_is))
    (case d_law_word => refine' DL.Dn.mk ?a_21 ?l_21 ?c_21 ?k_21; (case a_21 => k_is); (case l_21 => k_is); (case c_21 => k_is); (case k_21 => k_is))
    (case d_law_number => refine' DL.Dn.mk ?a_22 ?l_22 ?c_22 ?k_22; (case a_22 => k_is); (case l_22 => k_is); (case c_22 => k_is); (case k_22 => k_is))
    (case d_law_cell => refine' DL.Dn.mk ?a_23 ?l_23 ?c_23 ?k_23; (case a_23 => k_is); (case l_23 => k_is); (case c_23 => k_is); (case k_23 => k_is))
    (case d_law_bare => refine' DL.Dn.mk ?a_24 ?l_24 ?c_24 ?k_24; (case a_24 => k_is); (case l_24 => k_is); (case c_24 => k_is); (case k_24 => k_is))
    (case d_law_columns => refine' DL.Dn.mk ?a_25 ?l_25 ?c_25 ?k_25; (case a_25 => k_is); (case l_25 => k_is); (case c_25 => k_is); (case k_25 => k_is))
    (case d_law_row => refine' DL.Dn.mk ?a_26 ?l_26 ?c_26 ?k_26; (case a_26 => k_is); (case l_26 => k_is); (case c_26 => k_is); (case k_26 => k_is))
    (case d_law_rows => refine' DL.Dn.mk ?a_27 ?l_27 ?c_27 ?k_27; (case a_27 => k_is); (case l_27 => k_is); (case c_27 => k_is); (case k_27 => k_is))
    (case d_law_cell_text => refine' DL.Dn.mk ?a_28 ?l_28 ?c_28 ?k_28; (case a_28 => k_is); (case l_28 => k_is); (case c_28 => k_is); (case k_28 => k_is))
    (case d_law_line_of => refine' DL.Dn.mk ?a_29 ?l_29 ?c_29 ?k_29; (case a_29 => k_is); (case l_29 => k_is); (case c_29 => k_is); (case k_29 => k_is))
    (case d_law_table_text => refine' DL.Dn.mk ?a_30 ?l_30 ?c_30 ?k_30; (case a_30 => k_is); (case l_30 => k_is); (case c_30 => k_is); (case k_30 => k_is))
    (case d_law_name_in => refine' DL.Dn.mk ?a_31 ?l_31 ?c_31 ?k_31; (case a_31 => k_is); (case l_31 => k_is); (case c_31 => k_is); (case k_31 => k_is))
    (case d_law_cell_in => refine' DL.Dn.mk ?a_32 ?l_32 ?c_32 ?k_32; (case a_32 => k_is); (case l_32 => k_is); (case c_32 => k_is); (case k_32 => k_is))
    (case d_law_table_in => refine' DL.Dn.mk ?a_33 ?l_33 ?c_33 ?k_33; (case a_33 => k_is); (case l_33 => k_is); (case c_33 => k_is); (case k_33 => k_is))
    (case d_law_spoilt => refine' DL.Dn.mk ?a_34 ?l_34 ?c_34 ?k_34; (case a_34 => k_is); (case l_34 => k_is); (case c_34 => k_is); (case k_34 => k_is))
    (case d_law_read => refine' DL.Dn.mk ?a_35 ?l_35 ?c_35 ?k_35; (case a_35 => k_is); (case l_35 => k_is); (case c_35 => k_is); (case k_35 => k_is))
    (case d_law => refine' DL.Dn.mk ?a_36 ?l_36 ?c_36 ?k_36; (case a_36 => k_is); (case l_36 => k_is); (case c_36 => k_is); (case k_36 => k_is))
    (case aC => k_is)
    (case d_init => refine' DL.Dni.mk ?m_37 ?a_37 ?i_37 ?kc_37 ?l_37 ?c_37 ?lT_37 ?hz_37; (case m_37 => k_is); (case a_37 => k_is); (case i_37 => k_is); (case kc_37 => k_is); (case l_37 => k_is); (case c_37 => k_is); (case lT_37 => k_is); (case hz_37 => rfl))
    (case a_LOWER => k_is)
    (case w_LOWER => repeat' (walk_at "wr"))
    (case a_LETTERS => k_is)
    (case w_LETTERS => repeat' (walk_at "wr"))
    (case a_DIGITS => k_is)
    (case w_DIGITS => repeat' (walk_at "wr"))
    (case a_BARRED => k_is)
    (case w_BARRED => repeat' (walk_at "wr"))
    (case a_LONGEST_NAME => k_is)
    (case w_LONGEST_NAME => repeat' (walk_at "wr"))
    (case a_LONGEST_TEXT => k_is)
    (case w_LONGEST_TEXT => repeat' (walk_at "wr"))
    (case a_LARGEST => k_is)
    (case w_LARGEST => repeat' (walk_at "wr"))
    (case a_MOST_DIGITS => k_is)
    (case w_MOST_DIGITS => repeat' (walk_at "wr"))
    (case c => refine' ⟨⟨?pg_38, ?hd_38, ?po_38, ?sa_38⟩, ?f1_38, ?f2_38⟩; (case pg_38 => k_is); (case hd_38 => k_is); (case po_38 => k_is); (case sa_38 => k_is); (case f1_38 => unfold L2.NoAttr; k_is); (case f2_38 => unfold L2.NoAttr; k_is))
    (case z_range => k_is)
    (case z_max => k_is)
    (case z_min => k_is)
    (case z_len => k_is)
    (case z_abs => k_is)
    (case z_int => k_is)
    (case z_str => k_is)
    (case z_bool => k_is)
    (case z_isinstance => k_is)
    (case z_zip => k_is)
    (case z_all => k_is)
    (case z_list => k_is)
    (case z_tuple => k_is)
    (case z_set => k_is)
    (case z_repr => k_is)
    (case z_enumerate => k_is)
    (case dR => refine' Lw.DnC.mk (mc := .type "type") ?rd_83 ?ga_83 ?fc_83 ?rc_83 ?fi_83 ?l_83 ?c_83; (case rd_83 => k_is); (case ga_83 => k_is); (case fc_83 => k_is); (case rc_83 => k_is); (case fi_83 => k_is); (case l_83 => k_is); (case c_83 => k_is))
    (case aT => k_is)
    (case aP => k_is)
    (case aI => k_is)
    (case E5 => exact ⟨⟨_, _, _, _, _, _, _, _, _, _, _, _, _, _, _, _, (by k_is), .inr ⟨_, _, _, PySem.F.excBase_ValueError, fun Y => by first | rfl | exact PySem.HandSPX.refsVE_contains Y _ (by first | rfl | decide +kernel)⟩⟩, ⟨_, _, PySem.F.store_ValueError, by first | kx_is | k_is | rfl | kernel_rfl⟩, (by k_is), (by k_is), (by k_is), (by k_is), (by k_is), ⟨_, (by k_is), (by k_is), _, _, _, _, _, _, _, _, _, (by k_is), (by k_is)⟩, Lw.ini_text⟩)
    (case ec => exact ⟨⟨⟨_, _, _, _, _, _, _, _, _, _, _, _, _, _, _, (by k_is), (by first | rfl | decide +kernel)⟩, (by k_is), (by k_is), (by k_is), (by k_is)⟩, ⟨(by k_is), (by k_is), (by k_is), (by k_is)⟩, ⟨(by k_is), (by k_is), (by k_is), (by k_is), (by k_is), (by k_is), (by k_is), (by k_is)⟩, (by k_is), (by k_is)⟩)
    (case no => k_is)
    (case pI => k_is)
    (case pT => k_is)
    (case pS => k_is)
    (case tI => k_is)
    (case tT => k_is)
    (case tS => k_is)
    (case tN => k_is)
