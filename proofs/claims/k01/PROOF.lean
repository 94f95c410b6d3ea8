import PyProof.Rows.All
import Wide.All
import OpenK.AllK
import Wide.FinOn
import HandS.ForMost
import HandS.ForExc
import HandS.Evl
import HandS.Lambda
import HandS.ExcInit
import HandS.ExcValue
import HandS.Codes
import HandS.IsInst
import HandS.More
import HandS.StrMore
import HandS.Zip
import HandS.Walk
import HandS.Defaults
import HandS.Conv
import KE.BitLaws
import HandS.TupLe
import KE.KIntText
import PyProof.EqKinds
import HandS.MakeKwOnly
import HandS.Exc
import HandS.ExcField
import HandS.ExcIs
import KE.KExcIs
import HandS.NamedTupSort
import PyProof.InstEq
import KE.KCallOwn
import HandS.ClsMeth
import HandS.CallLocal
import HandS.ExcCtx
import HandS.HotCalls
import HandS.SuiteRaise
import HandS.RaiseFrom
import HandS.ExcInitHot
import HandS.EndTab
import HandS.DictComp
import HandS.Strs
import KE.GoesEnumKw
import KE.GoesZip
import HandS.FStr
import HandS.Star
import PyProof.Rows.CallKwBuiltin
import KE.DataEq
import OpenK.KMeth
import HandS.Small
import HandS.TupAny
import HandS.Style
import HandS.Property
import HandS.Flow
import KE.KExcInit
import KE.KRevSl
import PySem.Challenge.RW_sentparts_k01_errors
set_option Elab.async false
set_option linter.all false
set_option maxRecDepth 100000
set_option maxHeartbeats 3999000
/-! DL, part A: data, what stands for it in the heap, the states -/
namespace DL
open L2 PySem
open PySem.Spec PyProof.Rows

/-- a datum -/
inductive D where
  | non | bl (b : Bool) | int (i : Int) | str (x : Str) | byt (b : Array UInt8) | ty (n : String)
  | own (a : Addr) | box
  | lst (ds : List D) | tup (ds : List D) | dic (kvs : List (Key × D)) | ins (C : Addr) (fs : List (Str × D))
  /-- a list that is only read: the script -/
  | scr (ds : List D)
  /-- a caught exception: where it is, where its dict is, its attributes -/
  | exc (a d : Addr) (fds : List (Str × D))
  /-- anything -/
  | any
  /-- what the later laws draw from: a list of a list of numbers and a number, both changed by the drawing alone -/
  | deal
  /-- .. its list of numbers -/
  | nums

/-- kinds of boxes: three numbers; numbers; a list of numbers at b and a number -/
inductive BK where
  | three | nums | pair (b : Addr)
def BkOk (k : BK) (o : Option HO) : Prop := match k with
  | .three => ∃ g s c : Int, o = some (.lst [.int g, .int s, .int c])
  | .nums => ∃ xs : List Int, (∀ x ∈ xs, 0 ≤ x) ∧ xs.length ≤ 100 ∧ o = some (.lst (xs.map .int))
  | .pair b => ∃ v : Int, 0 ≤ v ∧ o = some (.lst [.ref b, .int v])
theorem BkOk.some {k : BK} {o : Option HO} (h : BkOk k o) : ∃ u, o = some u := by
  cases k with
  | three => obtain ⟨_, _, _, e⟩ := h; exact ⟨_, e⟩
  | nums => obtain ⟨_, _, _, e⟩ := h; exact ⟨_, e⟩
  | pair b => obtain ⟨_, _, e⟩ := h; exact ⟨_, e⟩
/-- what is known for good: objects that stay, and the boxes -/
structure Lg where
  hp : Hp
  bx : Addr → Option BK
structure Lg.le (L L' : Lg) : Prop where
  hp : ∀ a o, L.hp a = some o → L'.hp a = some o
  bx : ∀ a k, L.bx a = some k → L'.bx a = some k
theorem Lg.le.refl (L : Lg) : L.le L := ⟨fun _ _ h => h, fun _ _ h => h⟩
theorem Lg.le.trans {L L1 L2 : Lg} (a : L.le L1) (b : L1.le L2) : L.le L2 := ⟨fun x o h => b.hp x o (a.hp x o h), fun x k h => b.bx x k (a.bx x k h)⟩

mutual
inductive Is (K : PySem.W.Frag) (L : Lg) : V → D → Prop
  | non : Is K L .non .non
  | bl (b : Bool) : Is K L (.bl b) (.bl b)
  | int (i : Int) : Is K L (.int i) (.int i)
  | str (x : Str) : Is K L (.str x) (.str x)
  | byt (b : Array UInt8) : Is K L (.byt b) (.byt b)
  | ty (n : String) : Is K L (.ty n) (.ty n)
  | own (a : Addr) : Is K L (.ref a) (.own a)
  | box {a : Addr} : L.bx a = some .three → Is K L (.ref a) .box
  | deal {a b : Addr} : L.bx a = some (.pair b) → L.bx b = some .nums → Is K L (.ref a) .deal
  | nums {a : Addr} : L.bx a = some .nums → Is K L (.ref a) .nums
  | lst {a : Addr} {vs : List V} {ds : List D} : L.hp a = some (.lst vs) → IsL K L vs ds → Is K L (.ref a) (.lst ds)
  | scr {a : Addr} {vs : List V} {ds : List D} : SqL K L.hp a vs → IsL K L vs ds → Is K L (.ref a) (.scr ds)
  | tup {a : Addr} {vs : List V} {ds : List D} : SqT K L.hp a vs → IsL K L vs ds → Is K L (.ref a) (.tup ds)
  | dic {a : Addr} {kvs : List (Key × V)} {kds : List (Key × D)} : L.hp a = some (.dK kvs) → kvs.map (·.1) = kds.map (·.1) → IsL K L (kvs.map (·.2)) (kds.map (·.2)) → Is K L (.ref a) (.dic kds)
  | exc {a d : Addr} {fs : List (Str × V)} {fds : List (Str × D)} : L.hp d = some (.xd fs) → fs.map (·.1) = fds.map (·.1) → IsL K L (fs.map (·.2)) (fds.map (·.2)) → Is K L (.ref a) (.exc a d fds)
  | any (a : Addr) : Is K L (.ref a) .any
  | ins {a C dx : Addr} {fs : List (Str × V)} {fds : List (Str × D)} : L.hp a = some (.ins C dx fs) → fs.map (·.1) = fds.map (·.1) → IsL K L (fs.map (·.2)) (fds.map (·.2)) → Is K L (.ref a) (.ins C fds)
inductive IsL (K : PySem.W.Frag) (L : Lg) : List V → List D → Prop
  | nil : IsL K L [] []
  | cons {v : V} {d : D} {vs : List V} {ds : List D} : Is K L v d → IsL K L vs ds → IsL K L (v :: vs) (d :: ds)
end

theorem le_rd {L L' : Lg} {a : Addr} {u : HO} (e : L.le L') (h : Rd L.hp a u) : Rd L'.hp a u := by
  rcases h with h | ⟨o, h⟩
  · exact .inl (e.hp _ _ h)
  · exact .inr ⟨o, e.hp _ _ h⟩
theorem le_sq {K : PySem.W.Frag} {L L' : Lg} {a : Addr} {vs : List V} (e : L.le L') (h : SqL K L.hp a vs) : SqL K L'.hp a vs := by
  rcases h with h | h
  · exact .inl (le_rd e h)
  · exact .inr h
theorem le_st {K : PySem.W.Frag} {L L' : Lg} {a : Addr} {vs : List V} (e : L.le L') (h : SqT K L.hp a vs) : SqT K L'.hp a vs := by
  rcases h with h | h
  · exact .inl (le_rd e h)
  · exact .inr h
section
variable {K : PySem.W.Frag} {L L' : Lg}
mutual
theorem Is.mono (e : L.le L') : ∀ {v : V} {d : D}, Is K L v d → Is K L' v d
  | _, _, .non => .non
  | _, _, .bl b => .bl b
  | _, _, .int i => .int i
  | _, _, .str x => .str x
  | _, _, .byt b => .byt b
  | _, _, .ty n => .ty n
  | _, _, .own a => .own a
  | _, _, .box h => .box (e.bx _ _ h)
  | _, _, .deal h g => .deal (e.bx _ _ h) (e.bx _ _ g)
  | _, _, .nums h => .nums (e.bx _ _ h)
  | _, _, .lst h t => .lst (e.hp _ _ h) (IsL.mono e t)
  | _, _, .scr h t => .scr (le_sq e h) (IsL.mono e t)
  | _, _, .tup h t => .tup (le_st e h) (IsL.mono e t)
  | _, _, .dic h k t => .dic (e.hp _ _ h) k (IsL.mono e t)
  | _, _, .ins h k t => .ins (e.hp _ _ h) k (IsL.mono e t)
  | _, _, .exc h k t => .exc (e.hp _ _ h) k (IsL.mono e t)
  | _, _, .any a => .any a
theorem IsL.mono (e : L.le L') : ∀ {vs : List V} {ds : List D}, IsL K L vs ds → IsL K L' vs ds
  | _, _, .nil => .nil
  | _, _, .cons h t => .cons (Is.mono e h) (IsL.mono e t)
end
theorem IsL.length : ∀ {vs : List V} {ds : List D}, IsL K L vs ds → vs.length = ds.length
  | _, _, .nil => rfl
  | _, _, .cons _ t => congrArg (· + 1) (IsL.length t)
theorem IsL.get : ∀ {vs : List V} {ds : List D} {i : Nat} {d : D}, IsL K L vs ds → ds[i]? = some d → ∃ v, vs[i]? = some v ∧ Is K L v d
  | _, _, _, _, .nil,
        e => by simp at e
  | _, _, 0, _, .cons h _, e => by simp at e; subst e; exact ⟨_, rfl, h⟩
  | _, _, i + 1, d, .cons _ t, e => by
    obtain ⟨v, h1, h2⟩ := IsL.get (i := i) (d := d) t (by simpa using e)
    exact ⟨v, by simpa using h1, h2⟩
theorem IsL.getV : ∀ {vs : List V} {ds : List D} {i : Nat} {v : V}, IsL K L vs ds → vs[i]? = some v → ∃ d, ds[i]? = some d ∧ Is K L v d
  | _, _, _, _, .nil,
        e => by simp at e
  | _, _, 0, _, .cons h _, e => by simp at e; subst e; exact ⟨_, rfl, h⟩
  | _, _, i + 1, d, .cons _ t, e => by
    obtain ⟨v, h1, h2⟩ := IsL.getV (i := i) (v := d) t (by simpa using e)
    exact ⟨v, by simpa using h1, h2⟩
theorem IsL.append : ∀ {vs us : List V} {ds es : List D}, IsL K L vs ds → IsL K L us es → IsL K L (vs ++ us) (ds ++ es)
  | _, _, _, _, .nil, s => s
  | _, _, _, _, .cons h t, s => .cons h (IsL.append t s)
theorem IsL.set {v : V} {d : D} (h : Is K L v d) : ∀ {vs : List V} {ds : List D} (i : Nat), IsL K L vs ds → IsL K L (vs.set i v) (ds.set i d)
  | _, _, _, .nil => .nil
  | _, _, 0, .cons _ t => .cons h t
  | _, _, i + 1, .cons q t => .cons q (IsL.set h i t)
theorem IsL.take : ∀ {vs : List V} {ds : List D} (n : Nat), IsL K L vs ds → IsL K L (vs.take n) (ds.take n)
  | _, _, 0, _ => .nil
  | _, _, _ + 1, .nil => .nil
  | _, _, n + 1, .cons h t => .cons h (IsL.take n t)
theorem IsL.drop : ∀ {vs : List V} {ds : List D} (n : Nat), IsL K L vs ds → IsL K L (vs.drop n) (ds.drop n)
  | _, _, 0, h => h
  | _, _, _ + 1, .nil => .nil
  | _, _, n + 1, .cons _ t => IsL.drop n t
theorem IsL.eraseIdx : ∀ {vs : List V} {ds : List D} (n : Nat), IsL K L vs ds → IsL K L (vs.eraseIdx n) (ds.eraseIdx n)
  | _, _, _, .nil => .nil
  | _, _, 0, .cons _ t => t
  | _, _, n + 1, .cons h t => .cons h (IsL.eraseIdx n t)
/-- flat data are their own values -/
theorem Is.int' {v : V} {i : Int} (h : Is K L v (.int i)) : v = .int i := by cases h; rfl
theorem Is.bl' {v : V} {i : Bool} (h : Is K L v (.bl i)) : v = .bl i := by cases h; rfl
theorem Is.str' {v : V} {i : Str} (h : Is K L v (.str i)) : v = .str i := by cases h; rfl
theorem Is.non' {v : V} (h : Is K L v .non) : v = .non := by cases h; rfl
theorem Is.own' {v : V} {a : Addr} (h : Is K L v (.own a)) : v = .ref a := by cases h; rfl
theorem Is.ty' {v : V} {n : String} (h : Is K L v (.ty n)) : v = .ty n := by cases h; rfl
theorem Is.scr' {v : V} {ds : List D} (h : Is K L v (.scr ds)) : ∃ a vs, v = .ref a ∧ SqL K L.hp a vs ∧ IsL K L vs ds := by cases h; exact ⟨_, _, rfl, by assumption, by assumption⟩
theorem Is.lst' {v : V} {ds : List D} (h : Is K L v (.lst ds)) : ∃ a vs, v = .ref a ∧ L.hp a = some (.lst vs) ∧ IsL K L vs ds := by cases h; exact ⟨_, _, rfl, by assumption, by assumption⟩
theorem Is.tup' {v : V} {ds : List D} (h : Is K L v (.tup ds)) : ∃ a vs, v = .ref a ∧ SqT K L.hp a vs ∧ IsL K L vs ds := by cases h; exact ⟨_, _, rfl, by assumption, by assumption⟩
theorem Is.dic' {v : V} {kds : List (Key × D)} (h : Is K L v (.dic kds)) : ∃ a kvs, v = .ref a ∧ L.hp a = some (.dK kvs) ∧ kvs.map (·.1) = kds.map (·.1) ∧ IsL K L (kvs.map (·.2)) (kds.map (·.2)) := by
  cases h; exact ⟨_, _, rfl, by assumption, by assumption, by assumption⟩
theorem Is.ins' {v : V} {C : Addr} {fds : List (Str × D)} (h : Is K L v (.ins C fds)) : ∃ a dx fs, v = .ref a ∧ L.hp a = some (.ins C dx fs) ∧ fs.map (·.1) = fds.map (·.1) ∧ IsL K L (fs.map (·.2)) (fds.map (·.2)) := by
  cases h; exact ⟨_, _, _, rfl, by assumption, by assumption, by assumption⟩
theorem Is.exc' {v : V} {a d : Addr} {fds : List (Str × D)} (h : Is K L v (.exc a d fds)) : ∃ fs, v = .ref a ∧ L.hp d = some (.xd fs) ∧ fs.map (·.1) = fds.map (·.1) ∧ IsL K L (fs.map (·.2)) (fds.map (·.2)) := by
  cases h; exact ⟨_, rfl, by assumption, by assumption, by assumption⟩
theorem Is.deal' {v : V} (h : Is K L v .deal) : ∃ a b, v = .ref a ∧ L.bx a = some (.pair b) ∧ L.bx b = some .nums := by
  cases h with
  | deal h g => exact ⟨_, _, rfl, h, g⟩
theorem Is.nums' {v : V} (h : Is K L v .nums) : ∃ a, v = .ref a ∧ L.bx a = some .nums := by cases h; exact ⟨_, rfl, by assumption⟩
theorem Is.box' {v : V} (h : Is K L v .box) : ∃ a, v = .ref a ∧ L.bx a = some .three := by cases h; exact ⟨_, rfl, by assumption⟩
end

/-! ### pairs with keys -/
section
variable {κ : Type} [DecidableEq κ] {K : PySem.W.Frag} {L : Lg}
def valD (kds : List (κ × D)) (k : κ) : Option D := (kds.find? fun kv => decide (kv.1 = k)).map (·.2)
theorem kv_val : ∀ {kvs : List (κ × V)} {kds : List (κ × D)}, kvs.map (·.1) = kds.map (·.1) → IsL K L (kvs.map (·.2)) (kds.map (·.2)) → ∀ k,
    (∀ d, valD kds k = some d → ∃ v, (kvs.find? fun kv => decide (kv.1 = k)).map (·.2) = some v ∧ Is K L v d) ∧ (valD kds k = none → (kvs.find? fun kv => decide (kv.1 = k)).map (·.2) = none)
  | [], [], _, _, k => ⟨fun d e => by simp [valD] at e, fun _ => rfl⟩
  | (k1, v) :: kvs, (k2, d) :: kds, e, h, k => by
    simp only [List.map_cons,
        List.cons.injEq] at e
    obtain ⟨e1, e2⟩ := e
    subst e1
    rw [List.map_cons,
        List.map_cons] at h
    cases h with
    | cons h1 h2 =>
      by_cases c : k1 = k
      · subst c
        refine ⟨fun d' q => ?_, fun q => ?_⟩
        · have : d = d' := by simpa [valD] using q
          subst this
          exact ⟨v, by simp, h1⟩
        · simp [valD] at q
      · have ih := kv_val e2 h2 k
        refine ⟨fun d' q => ?_, fun q => ?_⟩
        · have q' : valD kds k = some d' := by simpa [valD, c] using q
          obtain ⟨v', a1, a2⟩ := ih.1 d' q'
          exact ⟨v', by simpa [c] using a1, a2⟩
        · have q' : valD kds k = none := by simpa [valD, c] using q
          simpa [c] using ih.2 q'
  | [], _ :: _, e, _, _ => by simp at e
  | _ :: _, [], e, _, _ => by simp at e
def putD (k : κ) (d : D) : List (κ × D) → List (κ × D)
  | [] => [(k, d)]
  | (g, x) :: r => if g = k then (k, d) :: r else (g, x) :: putD k d r
end

/-! ### owned things: they may change -/
inductive OD where
  | lst (ds : List D) | dic (kvs : List (Key × D)) | ins (C : Addr) (fs : List (Str × D))
  /-- a table of code objects of the name q: it grows -/
  | tab (q : Str)
  /-- an exception: its class, its dict -/
  | xcp (C : Addr) (d : Option Addr)
abbrev Ow := Addr → Option OD
def put (O : Ow) (a : Addr) (o : OD) : Ow := fun b => if b = a then some o else O b
def del (O : Ow) (a : Addr) : Ow := fun b => if b = a then none else O b
theorem put_same {O : Ow} {a : Addr} {o : OD} : put O a o a = some o := if_pos rfl
theorem put_ne {O : Ow} {a b : Addr} {o : OD} (h : b ≠ a) : put O a o b = O b := if_neg h
theorem put_put {O : Ow} {a : Addr} {o u : OD} : put (put O a o) a u = put O a u := by
  funext b; unfold put; split <;> rfl
theorem del_put {O : Ow} {a : Addr} {o : OD} (h : O a = none) : del (put O a o) a = O := by
  funext b; unfold del put; split
  · rename_i e; rw [e, h]
  · rfl
theorem put_back {O : Ow} {a : Addr} {o : OD} (h : O a = some o) : put O a o = O := by
  funext b; unfold put; split
  · rename_i e; rw [e, h]
  · rfl

/-- at a: an exception of the class at C -/
def XO (C : Addr) (d : Option Addr) (a : Addr) : HO := .ext fun h => ∃ oe : Obj, h.get? a = some oe ∧ Zc (.ref C) d oe ∧ ∃ vs, oe.data = .fields vs
def HasO (K : PySem.W.Frag) (L : Lg) (H : Hp) (a : Addr) : OD → Prop
  | .lst ds => ∃ vs, H a = some (.lst vs) ∧ IsL K L vs ds
  | .dic kds => ∃ kvs, H a = some (.dK kvs) ∧ kvs.map (·.1) = kds.map (·.1) ∧ IsL K L (kvs.map (·.2)) (kds.map (·.2))
  | .ins C fds => ∃ dx fs, H a = some (.ins C dx fs) ∧ fs.map (·.1) = fds.map (·.1) ∧ IsL K L (fs.map (·.2)) (fds.map (·.2))
  | .tab q => ∃ ps : Array Value, H a = some (.tbl ps) ∧ TriplesOk ps.toList ∧ ∀ (pos : Pos) (cv : Value), codeAmong pos ps.toList = some cv → ∃ c, cv = .ref c ∧ L.hp c = some (LamX.CodeO c q)
  | .xcp C d => H a = some (XO C d a)
theorem HasO.mono {K : PySem.W.Frag} {L L' : Lg} {H H' : Hp} {a : Addr} {o : OD} (e : L.le L') (h : HasO K L H a o) (hh : H' a = H a) : HasO K L' H' a o := by
  cases o with
  | lst ds => obtain ⟨vs, h1, h2⟩ := h; exact ⟨vs, hh.trans h1, h2.mono e⟩
  | dic kds => obtain ⟨vs, h1, h2, h3⟩ := h; exact ⟨vs, hh.trans h1, h2, h3.mono e⟩
  | ins C fds => obtain ⟨dx, fs, h1, h2, h3⟩ := h; exact ⟨dx, fs, hh.trans h1, h2, h3.mono e⟩
  | tab q => obtain ⟨ps, h1, h2, h3⟩ := h; exact ⟨ps, hh.trans h1, h2, fun pos cv hc => by
      obtain ⟨c, e1,
          e2⟩ := h3 pos cv hc
      exact ⟨c, e1, e.hp _ _ e2⟩⟩
  | xcp C d => exact hh.trans h
theorem HasO.some {K : PySem.W.Frag} {L : Lg} {H : Hp} {a : Addr} {o : OD} (h : HasO K L H a o) : ∃ u, H a = some u := by
  cases o with
  | lst ds => obtain ⟨vs, h1, _⟩ := h; exact ⟨_, h1⟩
  | dic kds => obtain ⟨vs, h1, _⟩ := h; exact ⟨_, h1⟩
  | ins C fds => obtain ⟨dx, fs, h1, _⟩ := h; exact ⟨_, h1⟩
  | tab q => obtain ⟨ps, h1, _⟩ := h; exact ⟨_, h1⟩
  | xcp C d => exact ⟨_, h⟩

structure R (K : PySem.W.Frag) (L : Lg) (O : Ow) (H : Hp) : Prop where
  hp : ∀ a o, L.hp a = some o → H a = some o
  bx : ∀ a k, L.bx a = some k → L.hp a = none ∧ O a = none ∧ BkOk k (H a)
  ow : ∀ a od, O a = some od → L.hp a = none ∧ HasO K L H a od
section
variable {K : PySem.W.Frag} {L : Lg} {O : Ow} {H : Hp} {p : Addr} {o : HO}
theorem R.start (H : Hp) : R K ⟨H, fun _ => none⟩ (fun _ => none) H := ⟨fun _ _ h => h, fun _ _ h => (by cases h), fun _ _ h => by cases h⟩
theorem R.free (r : R K L O H) (h : H p = none) : L.hp p = none ∧ O p = none ∧ L.bx p = none := by
  refine ⟨?_, ?_, ?_⟩
  · cases q : L.hp p with
    | none => rfl
    | some u => rw [r.hp _ _ q] at h; cases h
  · cases q : O p with
    | none => rfl
    | some u => obtain ⟨_, z⟩ := r.ow _ _ q; obtain ⟨u, e⟩ := z.some; rw [e] at h; cases h
  · cases q : L.bx p with
    | none => rfl
    | some k =>
      obtain ⟨_, _, z⟩ := r.bx _ _ q
      obtain ⟨u, e⟩ := z.some
      rw [e] at h
      cases h
def Lg.add (L : Lg) (p : Addr) (o : HO) : Lg := ⟨upd L.hp p o, L.bx⟩
theorem Lg.le_add (h : L.hp p = none) : L.le (L.add p o) := ⟨fun a u e => by
  show upd L.hp p o a = some u
  rw [upd_ne (ne_of_none e h)]; exact e, fun _ _ z => z⟩
/-- a new thing that stays -/
theorem R.new (r : R K L O H) (h : H p = none) : R K (L.add p o) O (upd H p o) := by
  obtain ⟨f1, f2, f3⟩ := r.free h
  have le : L.le (L.add p o) := Lg.le_add f1
  refine ⟨fun a u e => ?_, fun a k z => ?_, fun a od e => ?_⟩
  · have e' : upd L.hp p o a = some u := e
    by_cases c : a = p
    · subst c; rw [upd_same] at e' ⊢; exact e'
    · rw [upd_ne c] at e' ⊢; exact r.hp _ _ e'
  · have z' : L.bx a = some k := z
    have c : a ≠ p := fun q => by rw [q, f3] at z'; cases z'
    obtain ⟨h1, h2, h3⟩ := r.bx a k z'
    exact ⟨by show upd L.hp p o a = none; rw [upd_ne c]; exact h1, h2, by rw [upd_ne c]; exact h3⟩
  · have c : a ≠ p := fun q => by rw [q, f2] at e; cases e
    obtain ⟨h1, h2⟩ := r.ow a od e
    exact ⟨by show upd L.hp p o a = none; rw [upd_ne c]; exact h1, h2.mono le (upd_ne c)⟩
/-- a new box -/
def Lg.bk (L : Lg) (p : Addr) (k : BK) : Lg := ⟨L.hp, fun a => if a = p then some k else L.bx a⟩
theorem Lg.le_bk {k : BK} (h : L.bx p = none) : L.le (L.bk p k) := ⟨fun _ _ h => h, fun a k' z => by
  show (if a = p then some k else L.bx a) = some k'
  rw [if_neg (fun q => by rw [q, h] at z; cases z)]
  exact z⟩
theorem Lg.bk_same {k : BK} : (L.bk p k).bx p = some k := if_pos rfl
theorem R.newBk (r : R K L O H) (h : H p = none) {k : BK} (hk : BkOk k (some o)) : R K (L.bk p k) O (upd H p o) := by
  obtain ⟨f1, f2, f3⟩ := r.free h
  have le : L.le (L.bk p k) := Lg.le_bk f3
  refine ⟨fun a u e => ?_, fun a k' z => ?_, fun a od e => ?_⟩
  · have e' : L.hp a = some u := e
    rw [upd_ne (ne_of_none e' f1)]; exact r.hp _ _ e'
  · have z' : (if a = p then some k else L.bx a) = some k' := z
    by_cases q : a = p
    · subst q
      rw [if_pos rfl] at z'
      cases z'
      exact ⟨f1, f2, by rw [upd_same]; exact hk⟩
    · rw [if_neg q] at z'
      obtain ⟨h1, h2, h3⟩ := r.bx a k' z'
      exact ⟨h1, h2, by rw [upd_ne q]; exact h3⟩
  · have c : a ≠ p := fun q => by rw [q, f2] at e; cases e
    obtain ⟨h1, h2⟩ := r.ow a od e
    exact ⟨h1, h2.mono le (upd_ne c)⟩
theorem R.newBox (r : R K L O H) (h : H p = none) (g s c : Int) : R K (L.bk p .three) O (upd H p (.lst [.int g, .int s, .int c])) := r.newBk h ⟨g, s, c, rfl⟩
/-- a box turns -/
theorem R.turnBk (r : R K L O H) {k : BK} (hb : L.bx p = some k) (hk : BkOk k (some o)) : R K L O (upd H p o) := by
  obtain ⟨h1, h2, _⟩ := r.bx p k hb
  refine ⟨fun a u e => ?_, fun a k' z => ?_, fun a od e => ?_⟩
  · rw [upd_ne (ne_of_none e h1)]; exact r.hp _ _ e
  · by_cases q : a = p
    · subst q
      rw [hb] at z
      cases z
      exact ⟨h1, h2, by rw [upd_same]; exact hk⟩
    · obtain ⟨k1, k2, k3⟩ := r.bx a k' z
      exact ⟨k1, k2, by rw [upd_ne q]; exact k3⟩
  · have q : a ≠ p := fun q => by rw [q, h2] at e; cases e
    obtain ⟨k1, k2⟩ := r.ow a od e
    exact ⟨k1, k2.mono (.refl L) (upd_ne q)⟩
theorem R.turn (r : R K L O H) (hb : L.bx p = some .three) (g s c : Int) : R K L O (upd H p (.lst [.int g, .int s, .int c])) := r.turnBk hb ⟨g, s, c, rfl⟩
/-- a new thing that is owned -/
theorem R.newOwn (r : R K L O H) (h : H p = none) {od : OD} (hn : HasO K L (upd H p o) p od) : R K L (put O p od) (upd H p o) := by
  obtain ⟨f1, f2, f3⟩ := r.free h
  refine ⟨fun a u e => ?_, fun a k z => ?_, fun a u e => ?_⟩
  · rw [upd_ne (ne_of_none e f1)]; exact r.hp _ _ e
  · have c : a ≠ p := fun q => by rw [q, f3] at z; cases z
    obtain ⟨h1, h2, h3⟩ := r.bx a k z
    exact ⟨h1, by rw [put_ne c]; exact h2, by rw [upd_ne c]; exact h3⟩
  · by_cases c : a = p
    · subst c; rw [put_same] at e; cases e; exact ⟨f1, hn⟩
    · rw [put_ne c] at e
      obtain ⟨h1, h2⟩ := r.ow a u e
      exact ⟨h1, h2.mono (.refl L) (upd_ne c)⟩
/-- an owned thing changes -/
theorem R.change (r : R K L O H) {od od' : OD} (ho : O p = some od) (hn : HasO K L (upd H p o) p od') : R K L (put O p od') (upd H p o) := by
  obtain ⟨f1, _⟩ := r.ow _ _ ho
  refine ⟨fun a u e => ?_, fun a k z => ?_, fun a u e => ?_⟩
  · rw [upd_ne (ne_of_none e f1)]; exact r.hp _ _ e
  · obtain ⟨h1, h2, h3⟩ := r.bx a k z
    have c : a ≠ p := fun q => by rw [q, ho] at h2; cases h2
    exact ⟨h1, by rw [put_ne c]; exact h2, by rw [upd_ne c]; exact h3⟩
  · by_cases c : a = p
    · subst c; rw [put_same] at e; cases e; exact ⟨f1, hn⟩
    · rw [put_ne c] at e
      obtain ⟨h1, h2⟩ := r.ow a u e
      exact ⟨h1, h2.mono (.refl L) (upd_ne c)⟩
/-- an owned thing is forgotten -/
theorem R.drop (r : R K L O H) (p : Addr) : R K L (del O p) H := by
  refine ⟨r.hp, fun a k z => ?_, fun a u e => ?_⟩
  · obtain ⟨h1, h2, h3⟩ := r.bx a k z
    refine ⟨h1, ?_, h3⟩
    unfold del; split
    · rfl
    · exact h2
  · unfold del at e; split at e
    · cases e
    · exact r.ow a u e
/-- the datum of an owned thing that changes no more -/
def OD.d : OD → D
  | .lst ds => .lst ds
  | .dic kds => .dic kds
  | .ins C fds => .ins C fds
  | .tab _ => .any
  | .xcp _ _ => .any
/-- an owned thing changes no more -/
theorem R.freeze (r : R K L O H) {od : OD} (ho : O p = some od) : ∃ L' : Lg, L.le L' ∧ Is K L' (.ref p) od.d ∧ R K L' (del O p) H := by
  obtain ⟨f1, f2⟩ := r.ow _ _ ho
  obtain ⟨o, e⟩ := f2.some
  have le : L.le (L.add p o) := Lg.le_add f1
  have lp : (L.add p o).hp p = some o := upd_same
  refine ⟨L.add p o, le, ?_, fun a u q => ?_, fun a k z => ?_, fun a u q => ?_⟩
  · cases od with
    | lst ds => obtain ⟨vs, h1, h2⟩ := f2; rw [e] at h1; cases h1; exact .lst lp (h2.mono le)
    | dic kds => obtain ⟨vs, h1, h2, h3⟩ := f2; rw [e] at h1; cases h1; exact .dic lp h2 (h3.mono le)
    | ins C fds => obtain ⟨dx, fs, h1, h2, h3⟩ := f2; rw [e] at h1; cases h1; exact .ins lp h2 (h3.mono le)
    | tab q => exact .any _
    | xcp C d => exact .any _
  · have q' : upd L.hp p o a = some u := q
    by_cases c : a = p
    · subst c; rw [upd_same] at q'; cases q'; exact e
    · rw [upd_ne c] at q'; exact r.hp _ _ q'
  · have z' : L.bx a = some k := z
    obtain ⟨h1, h2, h3⟩ := r.bx a k z'
    have c : a ≠ p := fun q => by rw [q, ho] at h2; cases h2
    refine ⟨by show upd L.hp p o a = none; rw [upd_ne c]; exact h1, ?_, h3⟩
    unfold del; rw [if_neg c]; exact h2
  · have c : a ≠ p := fun z => by unfold del at q; rw [if_pos z] at q; cases q
    have q' : O a = some u := by unfold del at q; rw [if_neg c] at q; exact q
    obtain ⟨h1, h2⟩ := r.ow a u q'
    exact ⟨by show upd L.hp p o a = none; rw [upd_ne c]; exact h1, h2.mono le rfl⟩
end

/-! ### the slots -/
abbrev Sg := List (Option D)
structure Sl (K : PySem.W.Frag) (L : Lg) (σ : L2.St) (Γ : Sg) : Prop where
  len : σ.length = Γ.length
  at_ : ∀ (i : Nat) (d : D), Γ[i]? = some (some d) → ∃ v, σ[i]? = some (some v) ∧ Is K L v d
section
variable {K : PySem.W.Frag} {L L' : Lg} {σ : L2.St} {Γ : Sg}
theorem Sl.mono (e : L.le L') (h : Sl K L σ Γ) : Sl K L' σ Γ := ⟨h.len, fun i d q => by
  obtain ⟨v, a, b⟩ := h.at_ i d q
  exact ⟨v, a, b.mono e⟩⟩
theorem Sl.set (h : Sl K L σ Γ) {v : V} {d : D} (q : Is K L v d) (i : Nat) : Sl K L (σ.set i (some v)) (Γ.set i (some d)) := by
  refine ⟨by rw [List.length_set, List.length_set]; exact h.len, fun j e z => ?_⟩
  by_cases c : i = j
  · subst c
    rw [List.getElem?_set_self'] at z
    have hl : i < Γ.length := by
      cases e2 : Γ[i]? with
      | none => rw [e2] at z; cases z
      | some w => exact (List.getElem?_eq_some_iff.mp e2).1
    rw [List.getElem?_eq_getElem hl] at z
    simp at z
    subst z
    refine ⟨v, ?_, q⟩
    rw [List.getElem?_set_self]
    rw [h.len]; exact hl
  · rw [List.getElem?_set_ne c] at z
    obtain ⟨w, a, b⟩ := h.at_ j e z
    exact ⟨w, by rw [List.getElem?_set_ne c]; exact a, b⟩
/-- a slot is forgotten -/
theorem Sl.forget (h : Sl K L σ Γ) (i : Nat) : Sl K L σ (Γ.set i none) := by
  refine ⟨by rw [List.length_set]; exact h.len, fun j e z => ?_⟩
  by_cases c : i = j
  · subst c
    rw [List.getElem?_set_self'] at z
    cases e2 : Γ[i]? with
    | none => rw [e2] at z; cases z
    | some w => rw [e2] at z; simp at z
  · rw [List.getElem?_set_ne c] at z
    exact h.at_ j e z
end
end DL
/-! DL, part B: what an expression, a test, a list of arguments, a statement leads to, over data -/
namespace DL
open L2 PySem
open PySem.Spec PyProof.Rows

/-! ### the widest readings -/
def uE (X : Cx) (e : Expr) : TE := fun σ H Q => ∀ pins s, Inv X pins σ H s → wpAny (model X.prog X.w) X.A (eval e X.env) (EP X pins σ Q) X.xe s
def uT (X : Cx) (e : Expr) : TT := fun σ H Q => ∀ pins s, Inv X pins σ H s → wpAny (model X.prog X.w) X.A (isTrue e X.env (eval e X.env)) (TP X pins σ Q) X.xe s
def uW (X : Cx) (e : Expr) : TT := fun σ H Q => ∀ whole pins s, Inv X pins σ H s → wpAny (model X.prog X.w) X.A (isTrue e X.env whole) (TP X pins σ Q) X.xe s
def uA (X : Cx) (es : List Expr) : TA := fun σ H Q => ∀ pos pins s, Inv X pins σ H s → wpAny (model X.prog X.w) X.A (spliced (backTo pos (starEach es X.env))) (AP X pins σ Q) X.xe s
def uS (X : Cx) (st : Stmt) : TS := fun D σ H => ∀ pins s, Inv X pins σ H s → wpAny (model X.prog X.w) X.A (exec st X.env) (SP X pins D) X.xe s
def uSs (X : Cx) (st : List Stmt) : TS := fun D σ H => ∀ pins s, Inv X pins σ H s → wpAny (model X.prog X.w) X.A (execs st X.env) (SP X pins D) X.xe s
def uO (X : Cx) (f : Value → Value → Sem Value) : R2 := fun x y H Q => ∀ pins s σ v u, Inv X pins σ H s → RelV x v → RelV y u → wpAny (model X.prog X.w) X.A (f v u) (EP X pins σ Q) X.xe s
def uU (X : Cx) (f : Value → Sem Value) : V → Hp → VK → Prop := fun x H Q => ∀ pins s σ v, Inv X pins σ H s → RelV x v → wpAny (model X.prog X.w) X.A (f v) (EP X pins σ Q) X.xe s
def uC (X : Cx) (f : Value) : List V → Hp → VK → Prop := fun xs H Q => ∀ pins s σ us, Inv X pins σ H s → Vals xs us → wpAny (model X.prog X.w) X.A (call f us) (EP X pins σ Q) X.xe s
section
variable {X : Cx}
theorem pu (e : Expr) : PE X e (uE X e) := ⟨fun pins s σ H Q I h => h pins s I⟩
theorem ptu (e : Expr) : PT X e (uT X e) := ⟨fun pins s σ H Q I h => h pins s I⟩
theorem pwu (e : Expr) : PW X e (uW X e) := ⟨fun wh pins s σ H Q I h => h wh pins s I⟩
theorem pau (es : List Expr) : PA X es (uA X es) := ⟨fun pos pins s σ H Q I h => h pos pins s I⟩
theorem psu (st : Stmt) : PS X st (uS X st) := ⟨fun pins s σ H D I h => h pins s I⟩
theorem pssu (st : List Stmt) : PSs X st (uSs X st) := ⟨fun pins s σ H D I h => h pins s I⟩
theorem ou (f : Value → Value → Sem Value) : OpR X f (uO X f) := fun pins s σ H x y v u Q I rx ry h => h pins s σ v u I rx ry
theorem unu (f : Value → Sem Value) : UnR X f (uU X f) := fun pins s σ H x v Q I rx h => h pins s σ v I rx
theorem cu (f : Value) : CallR X f (uC X f) := fun pins s σ H xs us Q I rx h => h pins s σ us I rx
variable {σ : L2.St} {H : Hp}
theorem toE {e : Expr} {t : TE} (h : PE X e t) {Q : VK} (q : t σ H Q) : uE X e σ H Q := fun pins s I => h.run pins s σ H Q I q
theorem toT {e : Expr} {t : TT} (h : PT X e t) {Q} (q : t σ H Q) : uT X e σ H Q := fun pins s I => h.run pins s σ H Q I q
theorem toW {e : Expr} {t : TT} (h : PW X e t) {Q} (q : t σ H Q) : uW X e σ H Q := fun wh pins s I => h.run wh pins s σ H Q I q
theorem toA {es : List Expr} {t : TA} (h : PA X es t) {Q} (q : t σ H Q) : uA X es σ H Q := fun pos pins s I => h.run pos pins s σ H Q I q
theorem toS {st : Stmt} {t : TS} (h : PS X st t) {D} (q : t D σ H) : uS X st D σ H := fun pins s I => h.run pins s σ H D I q
theorem toSs {st : List Stmt} {t : TS} (h : PSs X st t) {D} (q : t D σ H) : uSs X st D σ H := fun pins s I => h.run pins s σ H D I q
theorem toO {f : Value → Value → Sem Value} {r : R2} (h : OpR X f r) {x y : V} {Q : VK} (q : r x y H Q) : uO X f x y H Q := fun pins s σ v u I rx ry => h pins s σ H x y v u Q I rx ry q
theorem toU {f : Value → Sem Value} {r : V → Hp → VK → Prop} (h : UnR X f r) {x : V} {Q : VK} (q : r x H Q) : uU X f x H Q := fun pins s σ v I rx => h pins s σ H x v Q I rx q
theorem toC {f : Value} {r : List V → Hp → VK → Prop} (h : CallR X f r) {xs : List V} {Q : VK} (q : r xs H Q) : uC X f xs H Q := fun pins s σ us I rx => h pins s σ H xs us Q I rx q
end

/-! ### the judgements -/
abbrev KD := D → Ow → Prop
/-- what follows a value, in the heap's words -/
def Fol (K : PySem.W.Frag) (L : Lg) (k : KD) (Q : VK) : Prop := ∀ v d O' L' H', k d O' → L.le L' → Is K L' v d → R K L' O' H' → Q v H'
def FolT (K : PySem.W.Frag) (L : Lg) (k : Bool → Ow → Prop) (Q : Bool → Hp → Prop) : Prop := ∀ b O' L' H', k b O' → L.le L' → R K L' O' H' → Q b H'
def FolA (K : PySem.W.Frag) (L : Lg) (k : List D → Ow → Prop) (Q : List V → Hp → Prop) : Prop := ∀ vs ds O' L' H', k ds O' → L.le L' → IsL K L' vs ds → R K L' O' H' → Q vs H'
/-- behind a statement: what is wanted there -/
structure DE where
  nx : Sg → Ow → Prop
  rt : KD
  bk : Sg → Ow → Prop := fun _ _ => False
  ct : Sg → Ow → Prop := fun _ _ => False
def FolN (K : PySem.W.Frag) (L : Lg) (k : Sg → Ow → Prop) (q : L2.St → Hp → Prop) : Prop := ∀ Γ O' σ L' H', k Γ O' → L.le L' → Sl K L' σ Γ → R K L' O' H' → q σ H'
structure FolS (K : PySem.W.Frag) (L : Lg) (D : DE) (E : Ends) : Prop where
  nx : FolN K L D.nx E.nx
  rt : Fol K L D.rt E.rt
  bk : FolN K L D.bk E.bk
  ct : FolN K L D.ct E.ct
def WE (X : Cx) (e : Expr) (Γ : Sg) (O : Ow) (k : KD) : Prop := ∀ σ L H, Sl X.K L σ Γ → R X.K L O H → ∀ Q, Fol X.K L k Q → uE X e σ H Q
def WT (X : Cx) (e : Expr) (Γ : Sg) (O : Ow) (k : Bool → Ow → Prop) : Prop := ∀ σ L H, Sl X.K L σ Γ → R X.K L O H → ∀ Q, FolT X.K L k Q → uT X e σ H Q
def WW (X : Cx) (e : Expr) (Γ : Sg) (O : Ow) (k : Bool → Ow → Prop) : Prop := ∀ σ L H, Sl X.K L σ Γ → R X.K L O H → ∀ Q, FolT X.K L k Q → uW X e σ H Q
def WA (X : Cx) (es : List Expr) (Γ : Sg) (O : Ow) (k : List D → Ow → Prop) : Prop := ∀ σ L H, Sl X.K L σ Γ → R X.K L O H → ∀ Q, FolA X.K L k Q → uA X es σ H Q
def WS (X : Cx) (st : Stmt) (Γ : Sg) (O : Ow) (D : DE) : Prop := ∀ σ L H, Sl X.K L σ Γ → R X.K L O H → ∀ E, FolS X.K L D E → uS X st E σ H
def WSs (X : Cx) (st : List Stmt) (Γ : Sg) (O : Ow) (D : DE) : Prop := ∀ σ L H, Sl X.K L σ Γ → R X.K L O H → ∀ E, FolS X.K L D E → uSs X st E σ H
def WO (X : Cx) (f : Value → Value → Sem Value) (x y : D) (O : Ow) (k : KD) : Prop := ∀ vx vy L H, Is X.K L vx x → Is X.K L vy y → R X.K L O H → ∀ Q, Fol X.K L k Q → uO X f vx vy H Q
def WU (X : Cx) (f : Value → Sem Value) (x : D) (O : Ow) (k : KD) : Prop := ∀ vx L H, Is X.K L vx x → R X.K L O H → ∀ Q, Fol X.K L k Q → uU X f vx H Q
def WC (X : Cx) (f : Value) (ds : List D) (O : Ow) (k : KD) : Prop := ∀ vs L H, IsL X.K L vs ds → R X.K L O H → ∀ Q, Fol X.K L k Q → uC X f vs H Q

section
variable {K : PySem.W.Frag} {L L' : Lg}
theorem Fol.le {k : KD} {Q : VK} (h : Fol K L k Q) (e : L.le L') : Fol K L' k Q := fun v d O' L2 H' a b c r => h v d O' L2 H' a (e.trans b) c r
theorem FolT.le {k} {Q} (h : FolT K L k Q) (e : L.le L') : FolT K L' k Q := fun v O' L2 H' a b r => h v O' L2 H' a (e.trans b) r
theorem FolA.le {k} {Q} (h : FolA K L k Q) (e : L.le L') : FolA K L' k Q := fun v d O' L2 H' a b c r => h v d O' L2 H' a (e.trans b) c r
theorem FolN.le {k} {Q} (h : FolN K L k Q) (e : L.le L') : FolN K L' k Q := fun v d O' L2 H' a b c r => h v d O' L2 H' a (e.trans b) c r
theorem FolS.le {D : DE} {E : Ends} (h : FolS K L D E) (e : L.le L') : FolS K L' D E := ⟨h.nx.le e, h.rt.le e, h.bk.le e, h.ct.le e⟩
theorem FolS.nxt {D : DE} {E : Ends} (h : FolS K L D E) {n q} (hn : FolN K L n q) : FolS K L { D with nx := n } { E with nx := q } := ⟨hn, h.rt, h.bk, h.ct⟩
end

section
variable {X : Cx} {Γ : Sg} {O : Ow} {k : KD}
theorem WE.imp {e : Expr} {k k' : KD} (h : WE X e Γ O k) (i : ∀ d O', k d O' → k' d O') : WE X e Γ O k' := fun σ L H hs hr Q q => h σ L H hs hr Q fun v d O' L' H' a b c r => q v d O' L' H' (i _ _ a) b c r
theorem WT.imp {e : Expr} {k k'} (h : WT X e Γ O k) (i : ∀ d O', k d O' → k' d O') : WT X e Γ O k' := fun σ L H hs hr Q q => h σ L H hs hr Q fun d O' L' H' a b r => q d O' L' H' (i _ _ a) b r
theorem WA.imp {es : List Expr} {k k'} (h : WA X es Γ O k) (i : ∀ d O', k d O' → k' d O') : WA X es Γ O k' := fun σ L H hs hr Q q => h σ L H hs hr Q fun v d O' L' H' a b c r => q v d O' L' H' (i _ _ a) b c r
theorem WSs.imp {st : List Stmt} {D D' : DE} (h : WSs X st Γ O D) (n : ∀ Γ' O', D.nx Γ' O' → D'.nx Γ' O') (r : ∀ d O', D.rt d O' → D'.rt d O') (b : ∀ Γ' O', D.bk Γ' O' → D'.bk Γ' O') (c : ∀ Γ' O', D.ct Γ' O' → D'.ct Γ' O') : WSs X st Γ O D' :=
  fun σ L H hs hr E q => h σ L H hs hr E ⟨fun _ _ _ _ _ a => q.nx _ _ _ _ _ (n _ _ a), fun _ _ _ _ _ a => q.rt _ _ _ _ _ (r _ _ a), fun _ _ _ _ _ a => q.bk _ _ _ _ _ (b _ _ a), fun _ _ _ _ _ a => q.ct _ _ _ _ _ (c _ _ a)⟩

/-! ### expressions -/
theorem we_int {i j pos} (h : k (.int i) O) : WE X (.Constant (.int i) j pos) Γ O k := fun σ L H hs hr Q q => toE pe_int (q _ _ _ _ _ h (.refl L) (.int i) hr)
theorem we_bl {b j pos} (h : k (.bl b) O) : WE X (.Constant (.bool b) j pos) Γ O k := fun σ L H hs hr Q q => toE pe_bl (q _ _ _ _ _ h (.refl L) (.bl b) hr)
theorem we_non {j pos} (h : k .non O) : WE X (.Constant .none j pos) Γ O k := fun σ L H hs hr Q q => toE pe_non (q _ _ _ _ _ h (.refl L) .non hr)
theorem we_str {x j pos} (h : k (.str x) O) : WE X (.Constant (.str x) j pos) Γ O k := fun σ L H hs hr Q q => toE pe_str (q _ _ _ _ _ h (.refl L) (.str x) hr)
theorem we_byt {x : List UInt8} {j pos} (h : k (.byt x.toArray) O) : WE X (.Constant (.bytes x) j pos) Γ O k := fun σ L H hs hr Q q => toE pe_byt (q _ _ _ _ _ h (.refl L) (.byt _) hr)
/-- the name x is the i-th slot -/
structure Va (X : Cx) (x : Str) (i : Nat) : Prop where
  hN : X.N[i]? = some x
  hv : Vis X.env.scope x
  hd : (x == ("__debug__" : Str)) = false
  hc : (x == ("__classdict__" : Str)) = false
theorem we_var {x : Str} {i : Nat} {d : D} {pos} (hv : Va X x i) (hg : Γ[i]? = some (some d)) (h : k d O) : WE X (.Name x pos) Γ O k := fun σ L H hs hr Q q => by
  obtain ⟨v, e, z⟩ := hs.at_ i d hg
  exact toE (pe_var hv.hN hv.hv hv.hd hv.hc) ⟨v, e, q _ _ _ _ _ h (.refl L) z hr⟩
/-- a name of the module -/
structure Gn (X : Cx) (x : Str) (u : Value) : Prop where
  hg : Gl X x
  hm : X.mg x = some u
  hd : (x == ("__debug__" : Str)) = false
theorem we_glob {x : Str} {u : Value} {d : D} {pos} (g : Gn X x u) (hu : ∃ v, RelV v u ∧ ∀ L, Is X.K L v d) (h : k d O) : WE X (.Name x pos) Γ O k := fun σ L H hs hr Q q => by
  obtain ⟨v, e, z⟩ := hu
  exact toE (pe_glob g.hg g.hm e g.hd) (q _ _ _ _ _ h (.refl L) (z L) hr)
theorem we_bltn {x : Str} {v : V} {u : Value} {d : D} {pos} (hg : Gl X x) (hm : X.mg x = none) (hv : bootBuiltins x = some u) (r : RelV v u) (hn : x ≠ "__name__") (hd : (x == ("__debug__" : Str)) = false) (z : ∀ L, Is X.K L v d) (h : k d O) : WE X (.Name x pos) Γ O k :=
  fun σ L H hs hr Q q => toE (pe_bltn hg hm hv r hn hd) (q _ _ _ _ _ h (.refl L) (z L) hr)
theorem we_bin {op a b pos} (h : WE X a Γ O fun x O1 => WE X b Γ O1 fun y O2 => WO X (binaryOp op) x y O2 k) : WE X (.BinOp a op b pos) Γ O k := fun σ L H hs hr Q q => by
  refine toE (pe_op (ou _) (pu a) (pu b)) ?_
  refine h σ L H hs hr _ fun x dx O1 L1 H1 h1 e1 i1 r1 => ?_
  refine h1 σ L1 H1 (hs.mono e1) r1 _ fun y dy O2 L2 H2 h2 e2 i2 r2 => ?_
  exact h2 x y L2 H2 (i1.mono e2) i2 r2 Q (q.le (e1.trans e2))
theorem we_un {op a pos} (h : WE X a Γ O fun x O1 => WU X (unaryOp op) x O1 k) : WE X (.UnaryOp op a pos) Γ O k := fun σ L H hs hr Q q => by
  refine toE (pe_un (unu _) (pu a)) ?_
  refine h σ L H hs hr _ fun x dx O1 L1 H1 h1 e1 i1 r1 => ?_
  exact h1 x L1 H1 i1 r1 Q (q.le e1)
theorem we_cmp {op a b pos} (hm : behindInMarks op b = false) (h : WE X a Γ O fun x O1 => WE X b Γ O1 fun y O2 => WO X (compareOp op) x y O2 k) : WE X (.Compare a [op] [b] pos) Γ O k := fun σ L H hs hr Q q => by
  refine toE (pe_cmpR (ou _) (pu a) (pu b) hm) ?_
  refine h σ L H hs hr _ fun x dx O1 L1 H1 h1 e1 i1 r1 => ?_
  refine h1 σ L1 H1 (hs.mono e1) r1 _ fun y dy O2 L2 H2 h2 e2 i2 r2 => ?_
  exact h2 x y L2 H2 (i1.mono e2) i2 r2 Q (q.le (e1.trans e2))
theorem we_chain {op op' a b c pos} (hm : lastMarks [op, op'] [b, c] = false) (h : WE X a Γ O fun x O1 => WE X b Γ O1 fun y O2 => WO X (compareOp op) x y O2 fun z O3 => ∃ t, z = .bl t ∧
    (if t = true then WE X c Γ O3 fun w O4 => WO X (compareOp op') y w O4 k else k (.bl false) O3)) : WE X (.Compare a [op, op'] [b, c] pos) Γ O k := fun σ L H hs hr Q q => by
  refine toE (pe_chain (ou _) (ou _) (pu a) (pu b) (pu c) hm) ?_
  refine h σ L H hs hr _ fun x dx O1 L1 H1 h1 e1 i1 r1 => ?_
  refine h1 σ L1 H1 (hs.mono e1) r1 _ fun y dy O2 L2 H2 h2 e2 i2 r2 => ?_
  refine h2 x y L2 H2 (i1.mono e2) i2 r2 _ fun z dz O3 L3 H3 h3 e3 i3 r3 => ?_
  obtain ⟨t, e, h3⟩ := h3
  subst e
  refine ⟨t, i3.bl', ?_⟩
  cases t with
  | true =>
    refine iteT ?_
    have h3' : WE X c Γ O3 fun w O4 => WO X (compareOp op') dy w O4 k := h3
    refine h3' σ L3 H3 (hs.mono ((e1.trans e2).trans e3)) r3 _ fun w dw O4 L4 H4 h4 e4 i4 r4 => ?_
    exact h4 y w L4 H4 (i2.mono (e3.trans e4)) i4 r4 Q (q.le (((e1.trans e2).trans e3).trans e4))
  | false =>
    refine iteF ?_
    have h3' : k (.bl false) O3 := h3
    exact q _ _ _ _ _ h3' ((e1.trans e2).trans e3) (.bl false) r3
theorem we_and1 {op a pos} (h : WE X a Γ O k) : WE X (.BoolOp op [a] pos) Γ O k := fun σ L H hs hr Q q => toE (pe_one (pu a)) (h σ L H hs hr Q q)
theorem we_and {a b rest pos} (h : WE X a Γ O fun x O1 => ∃ c, x = .bl c ∧ if c = true then WE X (.BoolOp .And (b :: rest) pos) Γ O1 k else k (.bl false) O1) : WE X (.BoolOp .And (a :: b :: rest) pos) Γ O k := fun σ L H hs hr Q q => by
  refine toE (pe_and (pu a) (pu _)) ?_
  refine h σ L H hs hr _ fun x dx O1 L1 H1 h1 e1 i1 r1 => ?_
  obtain ⟨c, e, h1⟩ := h1
  subst e
  refine ⟨c, i1.bl', ?_⟩
  cases c with
  | true =>
    have h1' : WE X (.BoolOp .And (b :: rest) pos) Γ O1 k := h1
    exact iteT (h1' σ L1 H1 (hs.mono e1) r1 Q (q.le e1))
  | false =>
    have h1' : k (.bl false) O1 := h1
    exact iteF (q _ _ _ _ _ h1' e1 (.bl false) r1)
theorem we_or {a b rest pos} (h : WE X a Γ O fun x O1 => ∃ c, x = .bl c ∧ if c = true then k (.bl true) O1 else WE X (.BoolOp .Or (b :: rest) pos) Γ O1 k) : WE X (.BoolOp .Or (a :: b :: rest) pos) Γ O k := fun σ L H hs hr Q q => by
  refine toE (pe_or (pu a) (pu _)) ?_
  refine h σ L H hs hr _ fun x dx O1 L1 H1 h1 e1 i1 r1 => ?_
  obtain ⟨c, e, h1⟩ := h1
  subst e
  refine ⟨c, i1.bl', ?_⟩
  cases c with
  | true =>
    have h1' : k (.bl true) O1 := h1
    exact iteT (q _ _ _ _ _ h1' e1 (.bl true) r1)
  | false =>
    have h1' : WE X (.BoolOp .Or (b :: rest) pos) Γ O1 k := h1
    exact iteF (h1' σ L1 H1 (hs.mono e1) r1 Q (q.le e1))
theorem we_not {a pos} (h : WE X a Γ O fun x O1 => ∃ c, x = .bl c ∧ k (.bl (!c)) O1) : WE X (.UnaryOp .Not a pos) Γ O k := fun σ L H hs hr Q q => by
  refine toE (pe_not (pu a)) ?_
  refine h σ L H hs hr _ fun x dx O1 L1 H1 h1 e1 i1 r1 => ?_
  obtain ⟨c, e, h1⟩ := h1
  subst e
  exact ⟨c, i1.bl', q _ _ _ _ _ h1 e1 (.bl _) r1⟩
theorem we_ifExp {c a b pos} (h : WT X c Γ O fun t O1 => if t = true then WE X a Γ O1 k else WE X b Γ O1 k) : WE X (.IfExp c a b pos) Γ O k := fun σ L H hs hr Q q => by
  refine toE (pe_ifExp (ptu c) (pu a) (pu b)) ?_
  refine h σ L H hs hr _ fun t O1 L1 H1 h1 e1 r1 => ?_
  cases t with
  | true =>
    have h1' : WE X a Γ O1 k := h1
    exact iteT (h1' σ L1 H1 (hs.mono e1) r1 Q (q.le e1))
  | false =>
    have h1' : WE X b Γ O1 k := h1
    exact iteF (h1' σ L1 H1 (hs.mono e1) r1 Q (q.le e1))

/-! ### tests -/
variable {kt : Bool → Ow → Prop}
theorem wt_val {e : Expr} (he : ∀ whole, isTrue e X.env whole = (do let v ← whole; standAt e.pos; holding [v] (truthy v))) (h : WE X e Γ O fun x O1 => ∃ c, x = .bl c ∧ kt c O1) : WT X e Γ O kt := fun σ L H hs hr Q q => by
  refine toT (pt_val (pu e) he) ?_
  refine h σ L H hs hr _ fun x dx O1 L1 H1 h1 e1 i1 r1 => ?_
  obtain ⟨c, e, h1⟩ := h1
  subst e
  exact ⟨c, i1.bl', q _ _ _ _ h1 e1 r1⟩
theorem wt_cmp {op a b pos} (hm : behindInMarks op b = false) (h : WE X a Γ O fun x O1 => WE X b Γ O1 fun y O2 => WO X (compareOp op) x y O2 fun z O3 => ∃ c, z = .bl c ∧ kt c O3) : WT X (.Compare a [op] [b] pos) Γ O kt := fun σ L H hs hr Q q => by
  refine toT (pt_cmpR (ou _) (pu a) (pu b) hm) ?_
  refine h σ L H hs hr _ fun x dx O1 L1 H1 h1 e1 i1 r1 => ?_
  refine h1 σ L1 H1 (hs.mono e1) r1 _ fun y dy O2 L2 H2 h2 e2 i2 r2 => ?_
  refine h2 x y L2 H2 (i1.mono e2) i2 r2 _ fun z dz O3 L3 H3 h3 e3 i3 r3 => ?_
  obtain ⟨c, e, h3⟩ := h3
  subst e
  exact ⟨c, i3.bl', q _ _ _ _ h3 ((e1.trans e2).trans e3) r3⟩
theorem wt_chain {op op' a b c pos} (hm : lastMarks [op, op'] [b, c] = false) (h : WE X a Γ O fun x O1 => WE X b Γ O1 fun y O2 => WO X (compareOp op) x y O2 fun z O3 => ∃ t, z = .bl t ∧
    (if t = true then WE X c Γ O3 fun w O4 => WO X (compareOp op') y w O4 fun z O5 => ∃ t, z = .bl t ∧ kt t O5 else kt false O3)) : WT X (.Compare a [op, op'] [b, c] pos) Γ O kt := fun σ L H hs hr Q q => by
  refine toT (pt_chain (ou _) (ou _) (pu a) (pu b) (pu c) hm) ?_
  refine h σ L H hs hr _ fun x dx O1 L1 H1 h1 e1 i1 r1 => ?_
  refine h1 σ L1 H1 (hs.mono e1) r1 _ fun y dy O2 L2 H2 h2 e2 i2 r2 => ?_
  refine h2 x y L2 H2 (i1.mono e2) i2 r2 _ fun z dz O3 L3 H3 h3 e3 i3 r3 => ?_
  obtain ⟨t, e, h3⟩ := h3
  subst e
  refine ⟨t, i3.bl', ?_⟩
  cases t with
  | true =>
    refine iteT ?_
    have h3' : WE X c Γ O3 fun w O4 => WO X (compareOp op') dy w O4 fun z O5 => ∃ t, z = .bl t ∧ kt t O5 := h3
    refine h3' σ L3 H3 (hs.mono ((e1.trans e2).trans e3)) r3 _ fun w dw O4 L4 H4 h4 e4 i4 r4 => ?_
    refine h4 y w L4 H4 (i2.mono (e3.trans e4)) i4 r4 _ fun z5 d5 O5 L5 H5 h5 e5 i5 r5 => ?_
    obtain ⟨t5, e, h5⟩ := h5
    subst e
    exact ⟨t5, i5.bl', q _ _ _ _ h5 ((((e1.trans e2).trans e3).trans e4).trans e5) r5⟩
  | false =>
    refine iteF ?_
    have h3' : kt false O3 := h3
    exact ⟨false, rfl, q _ _ _ _ h3' ((e1.trans e2).trans e3) r3⟩
theorem wt_not {a pos} (h : WT X a Γ O fun c O1 => kt (!c) O1) : WT X (.UnaryOp .Not a pos) Γ O kt := fun σ L H hs hr Q q => by
  refine toT (pt_not (ptu a)) ?_
  exact h σ L H hs hr _ fun c O1 L1 H1 h1 e1 r1 => q _ _ _ _ h1 e1 r1
theorem wt_w {e : Expr} (h : WW X e Γ O kt) : WT X e Γ O kt := fun σ L H hs hr Q q => toT (pwu e).pt (h σ L H hs hr Q q)
theorem ww_and1 {a pos} (h : WT X a Γ O kt) : WW X (.BoolOp .And [a] pos) Γ O kt := fun σ L H hs hr Q q => toW (pw_and1 (ptu a)) (h σ L H hs hr Q q)
theorem ww_or1 {a pos} (h : WT X a Γ O kt) : WW X (.BoolOp .Or [a] pos) Γ O kt := fun σ L H hs hr Q q => toW (pw_or1 (ptu a)) (h σ L H hs hr Q q)
theorem ww_and {a b rest pos} (h : WT X a Γ O fun c O1 => if c = true then WW X (.BoolOp .And (b :: rest) pos) Γ O1 kt else kt false O1) : WW X (.BoolOp .And (a :: b :: rest) pos) Γ O kt := fun σ L H hs hr Q q => by
  refine toW (pw_and (ptu a) (pwu _)) ?_
  refine h σ L H hs hr _ fun c O1 L1 H1 h1 e1 r1 => ?_
  cases c with
  | true =>
    have h1' : WW X (.BoolOp .And (b :: rest) pos) Γ O1 kt := h1
    exact iteT (h1' σ L1 H1 (hs.mono e1) r1 Q (q.le e1))
  | false =>
    have h1' : kt false O1 := h1
    exact iteF (q _ _ _ _ h1' e1 r1)
theorem ww_or {a b rest pos} (h : WT X a Γ O fun c O1 => if c = true then kt true O1 else WW X (.BoolOp .Or (b :: rest) pos) Γ O1 kt) : WW X (.BoolOp .Or (a :: b :: rest) pos) Γ O kt := fun σ L H hs hr Q q => by
  refine toW (pw_or (ptu a) (pwu _)) ?_
  refine h σ L H hs hr _ fun c O1 L1 H1 h1 e1 r1 => ?_
  cases c with
  | true =>
    have h1' : kt true O1 := h1
    exact iteT (q _ _ _ _ h1' e1 r1)
  | false =>
    have h1' : WW X (.BoolOp .Or (b :: rest) pos) Γ O1 kt := h1
    exact iteF (h1' σ L1 H1 (hs.mono e1) r1 Q (q.le e1))

/-! ### arguments, displays -/
variable {ka : List D → Ow → Prop}
theorem wa_nil (h : ka [] O) : WA X [] Γ O ka := fun σ L H hs hr Q q => toA pa_nil (q _ _ _ _ _ h (.refl L) .nil hr)
theorem wa_cons {e : Expr} {es : List Expr} (hst : starEach (e :: es) X.env = (false, eval e X.env) :: starEach es X.env) (h : WE X e Γ O fun x O1 => WA X es Γ O1 fun ds O2 => ka (x :: ds) O2) : WA X (e :: es) Γ O ka := fun σ L H hs hr Q q => by
  refine toA (pa_cons (pu e) (pau es) hst) ?_
  refine h σ L H hs hr _ fun x dx O1 L1 H1 h1 e1 i1 r1 => ?_
  refine h1 σ L1 H1 (hs.mono e1) r1 _ fun vs ds O2 L2 H2 h2 e2 i2 r2 => ?_
  exact q _ _ _ _ _ h2 (e1.trans e2) (.cons (i1.mono e2) i2) r2
theorem we_tup {es x1 pos} (h : WA X es Γ O fun ds O1 => ds.length ≤ sizeLine ∧ k (.tup ds) O1) : WE X (.Tuple es x1 pos) Γ O k := fun σ L H hs hr Q q => by
  refine toE (pe_tup (pau es)) ?_
  refine h σ L H hs hr _ fun vs ds O1 L1 H1 h1 e1 i1 r1 => ⟨by rw [i1.length]; exact h1.1, fun p hp => ?_⟩
  obtain ⟨f1, _⟩ := r1.free hp
  have le := Lg.le_add (L := L1) (o := .tup vs) f1
  exact q _ _ _ _ _ h1.2 (e1.trans le) (.tup (.inl (.inl upd_same)) (i1.mono le)) (r1.new hp)
theorem we_lst {es pos} (h : WA X es Γ O fun ds O1 => ds.length ≤ sizeLine ∧ k (.lst ds) O1) : WE X (.List es pos) Γ O k := fun σ L H hs hr Q q => by
  refine toE (pe_lst (pau es)) ?_
  refine h σ L H hs hr _ fun vs ds O1 L1 H1 h1 e1 i1 r1 => ⟨by rw [i1.length]; exact h1.1, fun p hp => ?_⟩
  obtain ⟨f1, _⟩ := r1.free hp
  have le := Lg.le_add (L := L1) (o := .lst vs) f1
  exact q _ _ _ _ _ h1.2 (e1.trans le) (.lst upd_same (i1.mono le)) (r1.new hp)
/-- a list that may change -/
theorem we_lstO {es pos} (h : WA X es Γ O fun ds O1 => ds.length ≤ sizeLine ∧ ∀ p, O1 p = none → k (.own p) (put O1 p (.lst ds))) : WE X (.List es pos) Γ O k := fun σ L H hs hr Q q => by
  refine toE (pe_lst (pau es)) ?_
  refine h σ L H hs hr _ fun vs ds O1 L1 H1 h1 e1 i1 r1 => ⟨by rw [i1.length]; exact h1.1, fun p hp => ?_⟩
  obtain ⟨f1, f2, _⟩ := r1.free hp
  exact q _ _ _ _ _ (h1.2 p f2) e1 (.own p) (r1.newOwn hp ⟨vs, upd_same, i1⟩)
theorem we_dicO {pos} (h : ∀ p, O p = none → k (.own p) (put O p (.dic []))) : WE X (.Dict [] [] pos) Γ O k := fun σ L H hs hr Q q => by
  refine toE pe_dnewK ?_
  intro p hp
  obtain ⟨f1, f2, _⟩ := hr.free hp
  exact q _ _ _ _ _ (h p f2) (.refl L) (.own p) (hr.newOwn hp ⟨[], upd_same, rfl, .nil⟩)

/-! ### statements -/
variable {De : DE} {st : Stmt} {rest : List Stmt}
theorem ws_nil (h : De.nx Γ O) : WSs X [] Γ O De := fun σ L H hs hr E q => toSs pss_nil (q.nx _ _ _ _ _ h (.refl L) hs hr)
theorem ws_cons (h : WS X st Γ O { De with nx := fun Γ' O' => WSs X rest Γ' O' De }) : WSs X (st :: rest) Γ O De := fun σ L H hs hr E q => by
  refine toSs (pss_cons (psu st) (pssu rest)) ?_
  exact h σ L H hs hr _ (q.nxt fun Γ' O' σ' L' H' h' e' hs' hr' => h' σ' L' H' hs' hr' E (q.le e'))
theorem ws_one (h : WS X st Γ O De) : WSs X [st] Γ O De := fun σ L H hs hr E q => toSs (pss_one (psu st)) (h σ L H hs hr E q)
theorem ws_pass {pos} (h : De.nx Γ O) : WS X (.Pass pos) Γ O De := fun σ L H hs hr E q => toS ps_pass (q.nx _ _ _ _ _ h (.refl L) hs hr)
theorem ws_break {pos} (h : De.bk Γ O) : WS X (.Break pos) Γ O De := fun σ L H hs hr E q => toS ps_break (q.bk _ _ _ _ _ h (.refl L) hs hr)
theorem ws_continue {pos} (h : De.ct Γ O) : WS X (.Continue pos) Γ O De := fun σ L H hs hr E q => toS ps_continue (q.ct _ _ _ _ _ h (.refl L) hs hr)
theorem ws_doc {x j pos pos'} (h : De.nx Γ O) : WS X (.Expr (.Constant (.str x) j pos) pos') Γ O De := fun σ L H hs hr E q => toS ps_doc (q.nx _ _ _ _ _ h (.refl L) hs hr)
theorem ws_expr {e pos} (hw : swapsWith e none pos.line X.env = pure false) (h : WE X e Γ O fun _ O1 => De.nx Γ O1) : WS X (.Expr e pos) Γ O De := fun σ L H hs hr E q => by
  refine toS (ps_expr (pu e) hw) ?_
  exact h σ L H hs hr _ fun v d O1 L1 H1 h1 e1 i1 r1 => q.nx _ _ _ _ _ h1 e1 (hs.mono e1) r1
theorem ws_ret {e pos} (h : WE X e Γ O De.rt) : WS X (.Return (some e) pos) Γ O De := fun σ L H hs hr E q => toS (ps_ret (pu e)) (h σ L H hs hr _ q.rt)
theorem ws_retN {pos} (h : De.rt .non O) : WS X (.Return none pos) Γ O De := fun σ L H hs hr E q => toS ps_retN (q.rt _ _ _ _ _ h (.refl L) .non hr)
theorem ws_if {c : Expr} {a b : List Stmt} {pos} (h : WT X c Γ O fun t O1 => if t = true then WSs X a Γ O1 De else WSs X b Γ O1 De) : WS X (.If c a b pos) Γ O De := fun σ L H hs hr E q => by
  refine toS (ps_if (ptu c) (pssu a) (pssu b)) ?_
  refine h σ L H hs hr _ fun t O1 L1 H1 h1 e1 r1 => ?_
  cases t with
  | true =>
    have h1' : WSs X a Γ O1 De := h1
    exact iteT (h1' σ L1 H1 (hs.mono e1) r1 E (q.le e1))
  | false =>
    have h1' : WSs X b Γ O1 De := h1
    exact iteF (h1' σ L1 H1 (hs.mono e1) r1 E (q.le e1))
/-- a local name that is stored -/
structure Vs (X : Cx) (x : Str) (i : Nat) : Prop where
  nd : X.N.Nodup
  hN : X.N[i]? = some x
  hl : Loc X.env.scope x
  hf : X.fn x = true ∨ X.env.scope.names.lookup x = some .local
theorem ws_set {x : Str} {i : Nat} {e : Expr} {pos pos'} (hx : Vs X x i) (hw : swapsWith e (some (.Name x pos')) pos.line X.env = pure false) (h : WE X e Γ O fun d O1 => De.nx (Γ.set i (some d)) O1) : WS X (.Assign [.Name x pos'] e pos) Γ O De := fun σ L H hs hr E q => by
  refine toS (ps_set (i := i) hx.nd hx.hN hx.hl (pu e) hw hx.hf) ?_
  exact h σ L H hs hr _ fun v d O1 L1 H1 h1 e1 i1 r1 => q.nx _ _ _ _ _ h1 e1 ((hs.mono e1).set i1 i) r1
/-- a, b = x, y -/
theorem ws_par {x y : Str} {i j : Nat} {a b : Expr} {px py pt kt k2 pt2 pos} (hc : X.calm = true) (hN : X.N.Nodup) (hi : X.N[i]? = some x) (hj : X.N[j]? = some y) (hij : i ≠ j) (hx : X.env.scope.names.lookup x = some .local) (hy : X.env.scope.names.lookup y = some .local)
    (hp : ∀ {ta : TA}, PA X [a, b] ta → PS X (.Assign [.Tuple [.Name x px, .Name y py] kt pt] (.Tuple [a, b] k2 pt2) pos) (tPar i j ta))
    (h : WA X [a, b] Γ O fun ds O1 => ∃ d e, ds = [d, e] ∧ De.nx ((Γ.set i (some d)).set j (some e)) O1) : WS X (.Assign [.Tuple [.Name x px, .Name y py] kt pt] (.Tuple [a, b] k2 pt2) pos) Γ O De := fun σ L H hs hr E q => by
  refine toS (hp (pau [a, b])) ?_
  refine h σ L H hs hr _ fun vs ds O1 L1 H1 h1 e1 i1 r1 => ?_
  obtain ⟨d, e, z, h1⟩ := h1
  subst z
  cases i1 with
  | cons a1 t =>
    cases t with
    | cons a2 t =>
      cases t
      exact ⟨_, _, rfl, q.nx _ _ _ _ _ h1 e1 (((hs.mono e1).set a1 i).set a2 j) r1⟩
theorem ws_never {st : Stmt} (h : False) : WS X st Γ O De := h.elim
end
end DL
/-! DL, part C: defs that keep a promise where no repr is under way; their calls -/
namespace DL
open L2 PySem
open PySem.Spec PyProof.Rows

structure FnG (P : Program) (w : World) (K : PySem.W.Frag) (mg : Str → Option Value) (base : Heap) (CX : CXT) (k : Nat) (f : Addr) (fd : FuncData) (ps : List Str) (sp : Sp) : Prop where
  ln : ∀ vs H Q E, sp vs H Q E → vs.length = ps.length
  go : ∀ (A : Around) (outer : List Env) (s : Shared) (H : Hp) (args : Args) (us : List Value) (vs : List V) (Q : VK) (E : XK), A.guards = some [] → Room k A → Env0 P w K mg base A outer s H →
    BindsTo s fd args (ps.zip us) → Vals vs us → sp vs H Q E → codeAny (model P w) A (.call (.ref f) args) (CR CX outer P w H s Q E) s
theorem FnG.of {P : Program} {w : World} {K : PySem.W.Frag} {mg : Str → Option Value} {base : Heap} {CX : CXT} {k : Nat} {f : Addr} {fd : FuncData} {ps : List Str} {sp : Sp} (F : FnOk P w K mg base CX k f fd ps sp) : FnG P w K mg base CX k f fd ps sp :=
  ⟨F.len, fun A outer s H args us vs Q E _ => F.run A outer s H args us vs Q E⟩
theorem FnG.mono {P : Program} {w : World} {K : PySem.W.Frag} {mg : Str → Option Value} {base : Heap} {CX : CXT} {j k : Nat} {f : Addr} {fd : FuncData} {ps : List Str} {sp : Sp} (F : FnG P w K mg base CX j f fd ps sp) (h : j ≤ k) : FnG P w K mg base CX k f fd ps sp :=
  ⟨F.ln, fun A outer s H args us vs Q E hg hr => F.go A outer s H args us vs Q E hg (hr.mono h)⟩
theorem deep_guards (A : Around) (env : Env) : (A.deeper env).guards = A.guards := rfl

/-- a def as it stands behind the top, whatever its defaults: the hand layer's own word for it -/
abbrev FunX := @C8.Fun
theorem fn_same (st : Stmt) : C8.fnArgs st = defArgs st ∧ C8.fnBody st = defBody st ∧ C8.fnScope st = defScope st := by
  cases st <;> exact ⟨rfl, rfl, rfl⟩
theorem funx_mk {K : PySem.W.Frag} {x qual : Str} {st : Stmt} {f : Addr} {oc : Value} {od an : Option Addr} {osl : Array (Option Value)} {dV kV doc pm cdv ct : Value} (l : K.lookup f = some ⟨oc, od, .func (PySem.W.fnOf x qual (defArgs st) (defBody st) (defScope st) dV kV doc pm an cdv ct), osl⟩) (c : PySem.W.codeIn K cdv qual = true) : FunX K x qual st f (PySem.W.fnOf x qual (defArgs st) (defBody st) (defScope st) dV kV doc pm an cdv ct) := by
  obtain ⟨e1, e2, e3⟩ := fn_same st
  exact ⟨_, _, _, _, _, _, _, _, _, _, by rw [e1, e2, e3], l, c⟩
/-- a def's body keeps its promise -/
theorem FnG.body {CX : CXT} {P : Program} {w : World} {K : PySem.W.Frag} {mg : Str → Option Value} {base : Heap} {x qual : Str} {st : Stmt} {f : Addr} {fd : FuncData} {N ps : List Str} {k : Nat} {sp : Sp}
    (F : FunX K x qual st f fd) (S : FnScope N ps (defScope st)) (len : ∀ vs H Q E, sp vs H Q E → vs.length = ps.length)
    (hbody : ∀ (cdv : Value) (A : Around) (outer : List Env) (s : Shared) (H : Hp) (vs : List V) (Q : VK) (E : XK), A.guards = some [] → Room k (A.deeper (envOfC qual (defScope st) s.heap.objs.size f cdv)) → sp vs H Q E →
      uSs (cxOf CX P w K mg base N qual (defScope st) f cdv A outer s H E) (defBody st) { nx := fun _ H' => Q .non H', rt := Q } (start N vs) H) : FnG P w K mg base CX (k + 1) f fd ps sp := by
  obtain ⟨_, _, _, _, _, _, _, cdv, _, _, ef, lk, hcd⟩ := F.ex
  rw [(fn_same st).1, (fn_same st).2.1, (fn_same st).2.2] at ef
  subst ef
  refine ⟨len, fun A outer s H args us vs Q E hg hr e0 hb rv hsp => ?_⟩
  have hKs : K.In s.heap := e0.mod.kin.keeps fun b o e => (e0.bs b o e).1
  refine Att.call_fn hKs (e0.mod.nolimit.keeps fun b o e => (e0.bs b o e).1) lk hcd hr.depth hb ?_ (fun s₁ x => ?_) S.co S.gen S.kind
  · refine List.all_eq_true.mpr fun y hy => ?_
    have hm := S.par y.1 (List.of_mem_zip (a := y.1) (b := y.2) hy).1
    rcases hm with q | q
    · rw [q]; rfl
    · rw [q]; rfl
  have I := inv_start (CX := CX) (N := N) (E := E) S hr.hd e0 (len _ _ _ _ hsp) rv x
  have hw := hbody cdv A outer s H vs Q E hg (hr.deeper _) hsp [] s₁ I
  refine wpAny_mono hw (fun fl s' hs => ?_) fun e s' hs => hs
  have done : ∀ {σ' : L2.St} {H' : Hp} {v : V} {u : Value}, Inv (cxOf CX P w K mg base N qual (defScope st) f cdv A outer s H E) [] σ' H' s' → RelV v u → Q v H' → CE outer P w H s Q u s' :=
    fun {σ' H' v u} J r q => ⟨v, H', J.os, J.bare, J.base, J.hok, r, q⟩
  match fl, hs with
  | .next, ⟨_, _, J, q⟩ => exact done (v := .non) (u := .none) J rfl q
  | .ret u, ⟨_, _, _, J, r, q⟩ => exact done J r q
  | .brk, ⟨_, _, _, q⟩ => exact q.elim
  | .cont, ⟨_, _, _, q⟩ => exact q.elim

/-! ### promises over data -/
/-- what an exception bears: its class, its own attributes -/
abbrev KX := Addr → List (Str × D) → Ow → Prop
abbrev SpD := List D → Ow → KD → KX → Prop
def FolX (K : PySem.W.Frag) (L : Lg) (kx : KX) (E : XK) : Prop := ∀ C d (fs : List (Str × V)) (fds : List (Str × D)) O' L' H', kx C fds O' → L.le L' → H' d = some (.xd fs) → fs.map (·.1) = fds.map (·.1) → IsL K L' (fs.map (·.2)) (fds.map (·.2)) → R K L' O' H' → E (.ref C) (some d) H'
theorem FolX.le {K : PySem.W.Frag} {L L' : Lg} {kx : KX} {E : XK} (h : FolX K L kx E) (e : L.le L') : FolX K L' kx E := fun C d fs fds O' L2 H' a b => h C d fs fds O' L2 H' a (e.trans b)
def spOf (K : PySem.W.Frag) (S : SpD) : Sp := fun vs H Q E => ∃ (ds : List D) (L : Lg) (O : Ow) (k : KD) (kx : KX), IsL K L vs ds ∧ R K L O H ∧ S ds O k kx ∧ Fol K L k Q ∧ FolX K L kx E

/-- the start of a def's slots -/
def gst (n : Nat) (ds : List D) : Sg := ds.map some ++ List.replicate (n - ds.length) none
theorem sl_start {K : PySem.W.Frag} {L : Lg} {vs : List V} {ds : List D} {N : List Str} (h : IsL K L vs ds) : Sl K L (start N vs) (gst N.length ds) := by
  refine ⟨by simp [L2.start, gst, h.length], fun i d q => ?_⟩
  unfold gst at q
  by_cases c : i < ds.length
  · rw [List.getElem?_append_left (by simpa using c), List.getElem?_map] at q
    cases e : ds[i]? with
    | none => rw [e] at q; cases q
    | some d' =>
      rw [e] at q
      obtain ⟨v, a, b⟩ := h.get e
      have q' : d' = d := by simpa using q
      subst q'
      refine ⟨v, ?_, b⟩
      unfold L2.start
      have c' : i < (vs.map some).length := by rw [List.length_map, h.length]; exact c
      rw [List.getElem?_append_left c', List.getElem?_map, a]
      rfl
  · rw [List.getElem?_append_right (by simpa using Nat.le_of_not_lt c), List.getElem?_replicate] at q
    split at q <;> cases q

/-- a def of the module that is known: where it stands, how it is called, what it promises -/
structure Kn (X : Cx) (x : Str) (k : Nat) (S : SpD) : Prop where
  ex : ∃ (f : Addr) (fd : FuncData) (ps : List Str), FnG X.prog X.w X.K X.mg X.base CX0 k f fd ps (spOf X.K S) ∧ X.mg x = some (.ref f) ∧ PySem.W.keepIn X.K (.ref f) = true ∧ Binds X.K fd ps []
  gl : Gl X x
  db : (x == ("__debug__" : Str)) = false

section
variable {X : Cx} {Γ : Sg} {O : Ow} {k : KD}
theorem we_call {x : Str} {j : Nat} {S : SpD} {e : Expr} {es : List Expr} {p pos : Pos} (F : Kn X x j S) (hgd : X.A.guards = some []) (hr : Room j X.A) (he : starEach (e :: es) X.env = (false, eval e X.env) :: starEach es X.env) (hpl : (backTo pos (starEach es X.env)).any (·.1) = false)
    (h : WA X (e :: es) Γ O fun ds O1 => S ds O1 k fun _ _ _ => False) : WE X (.Call (.Name x p) (e :: es) [] pos) Γ O k := fun σ L H hs hR Q q pins s I => by
  obtain ⟨f, fd, ps, G, hm, hk, hb⟩ := F.ex
  refine wpAny_Call_Name_kw (ld_glob I F.gl hm ?_ F.db)
  refine PySem.W.callWith_K (h₀ := X.base) I.ok.mod.kin hk (thn (h σ L H hs hR (fun vs H1 => ∃ ds O1 L1, (S ds O1 k fun _ _ _ => False) ∧ L.le L1 ∧ IsL X.K L1 vs ds ∧ R X.K L1 O1 H1) (fun vs ds O1 L1 H1 a b c d => ⟨ds, O1, L1, a, b, c, d⟩) pos pins s I) fun us s1 ⟨vs, H1, I1, rv, ds, O1, L1, h1, le1, is1, r1⟩ => ⟨I1.kIn, ?_⟩) he hpl
  have hsp : spOf X.K S vs H1 Q (fun _ _ _ => False) := ⟨ds, L1, O1, k, fun _ _ _ => False, is1, r1, h1, q.le le1, fun _ _ _ _ _ _ _ z => z.elim⟩
  have hl : (us ++ []).length = ps.length := by rw [List.append_nil, ← rv.length]; exact G.ln _ _ _ _ hsp
  refine wpAny_call (codeAny_mono (G.go X.A X.stack s1 H1 ⟨us, []⟩ (us ++ []) vs Q (fun _ _ _ => False) hgd hr I1.env0 (hb s1 us I1.kIn hl) (by rw [List.append_nil]; exact rv) hsp) fun r s' hq => ?_)
  match r, hq with
  | .ok (.ret u), hq => exact I1.after hq
  | .ok .next, hq => exact hq.elim
  | .ok .brk, hq => exact hq.elim
  | .ok .cont, hq => exact hq.elim
  | .error e, hq => exact hq.elim
end
end DL
/-! DL, part D: operators, calls of built-ins, subscripts, methods over data -/
namespace DL
open L2 PySem
open PySem.Spec PyProof.Rows

section
variable {K : PySem.W.Frag} {L : Lg} {O : Ow} {H : Hp}
theorem R.rd (r : R K L O H) {a : Addr} {u : HO} (h : Rd L.hp a u) : Rd H a u := by
  rcases h with h | ⟨o, h⟩
  · exact .inl (r.hp _ _ h)
  · exact .inr ⟨o, r.hp _ _ h⟩
theorem R.sq (r : R K L O H) {a : Addr} {vs : List V} (h : SqL K L.hp a vs) : SqL K H a vs := by
  rcases h with h | h
  · exact .inl (r.rd h)
  · exact .inr h
theorem R.st (r : R K L O H) {a : Addr} {vs : List V} (h : SqT K L.hp a vs) : SqT K H a vs := by
  rcases h with h | h
  · exact .inl (r.rd h)
  · exact .inr h
/-- a new list | tuple | dict that stays, its datum -/
theorem R.newL (r : R K L O H) {p : Addr} {vs : List V} {ds : List D} (hp : H p = none) (i : IsL K L vs ds) : ∃ L', L.le L' ∧ Is K L' (.ref p) (.lst ds) ∧ R K L' O (upd H p (.lst vs)) := by
  obtain ⟨f1, _⟩ := r.free hp
  have le := Lg.le_add (L := L) (o := .lst vs) f1
  exact ⟨_, le, .lst upd_same (i.mono le), r.new hp⟩
theorem R.newT (r : R K L O H) {p : Addr} {vs : List V} {ds : List D} (hp : H p = none) (i : IsL K L vs ds) : ∃ L', L.le L' ∧ Is K L' (.ref p) (.tup ds) ∧ R K L' O (upd H p (.tup vs)) := by
  obtain ⟨f1, _⟩ := r.free hp
  have le := Lg.le_add (L := L) (o := .tup vs) f1
  exact ⟨_, le, .tup (.inl (.inl upd_same)) (i.mono le), r.new hp⟩
theorem R.newLO (r : R K L O H) {p : Addr} {vs : List V} {ds : List D} (hp : H p = none) (i : IsL K L vs ds) : R K L (put O p (.lst ds)) (upd H p (.lst vs)) := r.newOwn hp ⟨vs, upd_same, i⟩
/-- two owners hold the same list -/
theorem own_lst (r : R K L O H) {p : Addr} {ds : List D} (h : O p = some (.lst ds)) : ∃ vs, H p = some (.lst vs) ∧ IsL K L vs ds := (r.ow _ _ h).2
theorem own_dic (r : R K L O H) {p : Addr} {ds : List (Key × D)} (h : O p = some (.dic ds)) : ∃ kvs, H p = some (.dK kvs) ∧ kvs.map (·.1) = ds.map (·.1) ∧ IsL K L (kvs.map (·.2)) (ds.map (·.2)) := (r.ow _ _ h).2
theorem own_ins (r : R K L O H) {p C : Addr} {ds : List (Str × D)} (h : O p = some (.ins C ds)) : ∃ dx fs, H p = some (.ins C dx fs) ∧ fs.map (·.1) = ds.map (·.1) ∧ IsL K L (fs.map (·.2)) (ds.map (·.2)) := (r.ow _ _ h).2
end

/-- a datum that reads as a list: one that stays, the script, or an owned one -/
def SqD (O : Ow) (d : D) (ds : List D) : Prop := d = .lst ds ∨ d = .scr ds ∨ ∃ p, d = .own p ∧ O p = some (.lst ds)
theorem sqD_of {K : PySem.W.Frag} {L : Lg} {O : Ow} {H : Hp} (r : R K L O H) {v : V} {d : D} {ds : List D} (h : SqD O d ds) (i : Is K L v d) : ∃ a vs, v = .ref a ∧ SqL K H a vs ∧ IsL K L vs ds := by
  rcases h with rfl | rfl | ⟨p, rfl, h⟩
  · obtain ⟨a, vs, e, h1, h2⟩ := i.lst'
    exact ⟨a, vs, e, .inl (.inl (r.hp _ _ h1)), h2⟩
  · obtain ⟨a, vs, e, h1, h2⟩ := i.scr'
    exact ⟨a, vs, e, r.sq h1, h2⟩
  · obtain ⟨vs, h1, h2⟩ := own_lst r h
    exact ⟨p, vs, i.own', .inl (.inl h1), h2⟩
/-- .. and is tracked -/
def TqD (O : Ow) (d : D) (ds : List D) : Prop := d = .lst ds ∨ ∃ p, d = .own p ∧ O p = some (.lst ds)
theorem tqD_of {K : PySem.W.Frag} {L : Lg} {O : Ow} {H : Hp} (r : R K L O H) {v : V} {d : D} {ds : List D} (h : TqD O d ds) (i : Is K L v d) : ∃ a vs, v = .ref a ∧ H a = some (.lst vs) ∧ IsL K L vs ds := by
  rcases h with rfl | ⟨p, rfl, h⟩
  · obtain ⟨a, vs, e, h1, h2⟩ := i.lst'
    exact ⟨a, vs, e, r.hp _ _ h1, h2⟩
  · obtain ⟨vs, h1, h2⟩ := own_lst r h
    exact ⟨p, vs, i.own', h1, h2⟩

section
variable {X : Cx} {Γ : Sg} {O : Ow} {k : KD}

/-! ### operators on ints -/
theorem wo_rI0 {f} {g : Int → Int → V} {d : D} (ho : OpR X f (rI0 g)) {i j : Int} (hz : ∀ L, Is X.K L (g i j) d) (h : k d O) : WO X f (.int i) (.int j) O k := fun vx vy L H ix iy hr Q q => toO ho ⟨i, j, ix.int', iy.int', q _ _ _ _ _ h (.refl L) (hz L) hr⟩
theorem wo_rI {f} {C : Int → Int → Prop} {g : Int → Int → V} {d : D} (ho : OpR X f (rI C g)) {i j : Int} (hc : C i j) (hz : ∀ L, Is X.K L (g i j) d) (h : k d O) : WO X f (.int i) (.int j) O k := fun vx vy L H ix iy hr Q q => toO ho ⟨i, j, ix.int', iy.int', hc, q _ _ _ _ _ h (.refl L) (hz L) hr⟩
variable {i j : Int}
theorem wo_add (h : k (.int (i + j)) O) : WO X (binaryOp .Add) (.int i) (.int j) O k := wo_rI0 op_add (fun _ => .int _) h
theorem wo_sub (h : k (.int (i - j)) O) : WO X (binaryOp .Sub) (.int i) (.int j) O k := wo_rI0 op_sub (fun _ => .int _) h
theorem wo_mul (hc : CMul i j) (h : k (.int (i * j)) O) : WO X (binaryOp .Mult) (.int i) (.int j) O k := wo_rI op_mul hc (fun _ => .int _) h
theorem wo_fdiv (hc : 0 < j ∧ j < 1073741824) (h : k (.int (i / j)) O) : WO X (binaryOp .FloorDiv) (.int i) (.int j) O k := wo_rI op_fdiv hc (fun _ => .int _) h
theorem wo_mod (hc : 0 < j) (h : k (.int (i % j)) O) : WO X (binaryOp .Mod) (.int i) (.int j) O k := wo_rI op_mod hc (fun _ => .int _) h
theorem wo_pow (hc : CPow i j) (h : k (.int (i ^ j.toNat)) O) : WO X (binaryOp .Pow) (.int i) (.int j) O k := wo_rI op_pow hc (fun _ => .int _) h
theorem wo_band (h : k (.int (Builtin.bitAnd i j)) O) : WO X (binaryOp .BitAnd) (.int i) (.int j) O k := wo_rI0 op_and (fun _ => .int _) h
theorem wo_lt (h : k (.bl (decide (i < j))) O) : WO X (compareOp .Lt) (.int i) (.int j) O k := wo_rI0 op_lt (fun _ => .bl _) h
theorem wo_le (h : k (.bl (decide (i ≤ j))) O) : WO X (compareOp .LtE) (.int i) (.int j) O k := wo_rI0 op_le (fun _ => .bl _) h
theorem wo_gt (h : k (.bl (decide (j < i))) O) : WO X (compareOp .Gt) (.int i) (.int j) O k := wo_rI0 op_gt (fun _ => .bl _) h
theorem wo_ge (h : k (.bl (decide (j ≤ i))) O) : WO X (compareOp .GtE) (.int i) (.int j) O k := wo_rI0 op_ge (fun _ => .bl _) h
theorem wu_neg (h : k (.int (-i)) O) : WU X (unaryOp .USub) (.int i) O k := fun vx L H ix hr Q q => toU un_neg ⟨i, ix.int', q _ _ _ _ _ h (.refl L) (.int _) hr⟩

/-! ### == of flat data -/
/-- the value of a flat datum -/
def D.v : D → V
  | .bl b => .bl b
  | .int i => .int i
  | .str x => .str x
  | .byt b => .byt b
  | _ => .non
def D.flat : D → Bool
  | .non => true
  | .bl _ => true
  | .int _ => true
  | .str _ => true
  | _ => false
theorem is_v {L : Lg} {v : V} {d : D} (hf : d.flat = true) (h : Is X.K L v d) : v = d.v := by
  cases h with
  | own | box | lst | scr | tup | dic | ins | ty | byt | exc | any | deal | nums => cases hf
  | _ => rfl
theorem isL_v {L : Lg} : ∀ {vs : List V} {ds : List D}, ds.all D.flat = true → IsL X.K L vs ds → vs = ds.map D.v
  | _, _, _, .nil => rfl
  | _, _, hf, .cons h t => by
    rw [List.all_cons,
        Bool.and_eq_true] at hf
    rw [List.map_cons, is_v hf.1 h, isL_v hf.2 t]
theorem wo_eqV {d e : D} (h1 : d.flat = true) (h2 : e.flat = true) (hs : scal d.v e.v = true) (h : k (.bl (decide (d.v = e.v))) O) : WO X (compareOp .Eq) d e O k := fun vx vy L H ix iy hr Q q => by
  rw [is_v h1 ix, is_v h2 iy]; exact toO op_eq ⟨hs, q _ _ _ _ _ h (.refl L) (.bl _) hr⟩
theorem wo_neV {d e : D} (h1 : d.flat = true) (h2 : e.flat = true) (hs : scal d.v e.v = true) (h : k (.bl (!decide (d.v = e.v))) O) : WO X (compareOp .NotEq) d e O k := fun vx vy L H ix iy hr Q q => by
  rw [is_v h1 ix, is_v h2 iy]; exact toO op_ne ⟨hs, q _ _ _ _ _ h (.refl L) (.bl _) hr⟩
theorem wo_eq_ii (h : k (.bl (decide (i = j))) O) : WO X (compareOp .Eq) (.int i) (.int j) O k := wo_eqV rfl rfl rfl (by
  have e : decide (D.v (.int i) = D.v (.int j)) = decide (i = j) := by simp [D.v]
  rw [e]; exact h)
theorem wo_ne_ii (h : k (.bl (!decide (i = j))) O) : WO X (compareOp .NotEq) (.int i) (.int j) O k := wo_neV rfl rfl rfl (by
  have e : decide (D.v (.int i) = D.v (.int j)) = decide (i = j) := by simp [D.v]
  rw [e]; exact h)
theorem wo_eq_ss {x y : Str} (h : k (.bl (decide (x = y))) O) : WO X (compareOp .Eq) (.str x) (.str y) O k := wo_eqV rfl rfl rfl (by
  have e : decide (D.v (.str x) = D.v (.str y)) = decide (x = y) := by simp [D.v]
  rw [e]; exact h)
theorem wo_ne_ss {x y : Str} (h : k (.bl (!decide (x = y))) O) : WO X (compareOp .NotEq) (.str x) (.str y) O k := wo_neV rfl rfl rfl (by
  have e : decide (D.v (.str x) = D.v (.str y)) = decide (x = y) := by simp [D.v]
  rw [e]; exact h)
theorem wo_eq_bb {x y : Bool} (h : k (.bl (decide (x = y))) O) : WO X (compareOp .Eq) (.bl x) (.bl y) O k := wo_eqV rfl rfl rfl (by
  have e : decide (D.v (.bl x) = D.v (.bl y)) = decide (x = y) := by simp [D.v]
  rw [e]; exact h)
theorem wo_ne_bb {x y : Bool} (h : k (.bl (!decide (x = y))) O) : WO X (compareOp .NotEq) (.bl x) (.bl y) O k := wo_neV rfl rfl rfl (by
  have e : decide (D.v (.bl x) = D.v (.bl y)) = decide (x = y) := by simp [D.v]
  rw [e]; exact h)
/-- is None -/
def D.isNon : D → Bool
  | .non => true
  | _ => false
theorem isNon_v {L : Lg} {v : V} {d : D} (h : Is X.K L v d) : decide (v = .non) = d.isNon := by
  cases h <;> rfl
theorem wo_isN {d : D} (h : k (.bl d.isNon) O) : WO X (compareOp .Is) d .non O k := fun vx vy L H ix iy hr Q q => toO op_isN ⟨iy.non', by rw [isNon_v ix]; exact q _ _ _ _ _ h (.refl L) (.bl _) hr⟩
theorem wo_notN {d : D} (h : k (.bl (!d.isNon)) O) : WO X (compareOp .IsNot) d .non O k := fun vx vy L H ix iy hr Q q => toO op_notN ⟨iy.non', by rw [isNon_v ix]; exact q _ _ _ _ _ h (.refl L) (.bl _) hr⟩
/-- texts -/
theorem wo_addS {x y : Str} (hz : x.length + y.length ≤ sizeLine) (h : k (.str (x ++ y)) O) : WO X (binaryOp .Add) (.str x) (.str y) O k := fun vx vy L H ix iy hr Q q => toO op_add_str ⟨x, y, ix.str', iy.str', hz, q _ _ _ _ _ h (.refl L) (.str _) hr⟩
theorem wo_ltS {x y : Str} (h : k (.bl (decide (x.cps.toList < y.cps.toList))) O) : WO X (compareOp .Lt) (.str x) (.str y) O k := fun vx vy L H ix iy hr Q q => toO op_lt_str ⟨x, y, ix.str', iy.str', q _ _ _ _ _ h (.refl L) (.bl _) hr⟩
theorem wo_inSign {c : Nat} {z : Str} (h : k (.bl (decide (c ∈ z.cps.toList))) O) : WO X (compareOp .In) (.str ⟨#[c]⟩) (.str z) O k := fun vx vy L H ix iy hr Q q => toO op_in_sign ⟨c, z, ix.str', iy.str', q _ _ _ _ _ h (.refl L) (.bl _) hr⟩
theorem wo_notInSign {c : Nat} {z : Str} (h : k (.bl (!decide (c ∈ z.cps.toList))) O) : WO X (compareOp .NotIn) (.str ⟨#[c]⟩) (.str z) O k := fun vx vy L H ix iy hr Q q => toO op_notIn_sign ⟨c, z, ix.str', iy.str', q _ _ _ _ _ h (.refl L) (.bl _) hr⟩
/-- in a list or a tuple of flat things -/
theorem wo_inL {d e : D} {ds : List D} (he : SqD O e ds) (h1 : d.flat = true) (h2 : ds.all D.flat = true) (f1 : flatV d.v = true) (f2 : (ds.map D.v).all flatV = true) (h : k (.bl (inV d.v (ds.map D.v))) O) : WO X (compareOp .In) d e O k := fun vx vy L H ix iy hr Q q => by
  obtain ⟨a, vs, rfl, s, t⟩ := sqD_of hr he iy
  rw [is_v h1 ix]
  obtain rfl := isL_v h2 t
  exact toO op_in_seq ⟨a, _, rfl, .inl s, f1, f2, q _ _ _ _ _ h (.refl L) (.bl _) hr⟩
theorem wo_inT {d : D} {ds : List D} (h1 : d.flat = true) (h2 : ds.all D.flat = true) (f1 : flatV d.v = true) (f2 : (ds.map D.v).all flatV = true) (h : k (.bl (inV d.v (ds.map D.v))) O) : WO X (compareOp .In) d (.tup ds) O k := fun vx vy L H ix iy hr Q q => by
  obtain ⟨a, vs, rfl, s, t⟩ := iy.tup'
  rw [is_v h1 ix]
  obtain rfl := isL_v h2 t
  exact toO op_in_seq ⟨a, _, rfl, .inr (hr.st s), f1, f2, q _ _ _ _ _ h (.refl L) (.bl _) hr⟩
theorem wo_ninL {d e : D} {ds : List D} (he : SqD O e ds) (h1 : d.flat = true) (h2 : ds.all D.flat = true) (f1 : flatV d.v = true) (f2 : (ds.map D.v).all flatV = true) (h : k (.bl (!inV d.v (ds.map D.v))) O) : WO X (compareOp .NotIn) d e O k := fun vx vy L H ix iy hr Q q => by
  obtain ⟨a, vs, rfl, s, t⟩ := sqD_of hr he iy
  rw [is_v h1 ix]
  obtain rfl := isL_v h2 t
  exact toO op_notIn_seq ⟨a, _, rfl, .inl s, f1, f2, q _ _ _ _ _ h (.refl L) (.bl _) hr⟩
theorem wo_ninT {d : D} {ds : List D} (h1 : d.flat = true) (h2 : ds.all D.flat = true) (f1 : flatV d.v = true) (f2 : (ds.map D.v).all flatV = true) (h : k (.bl (!inV d.v (ds.map D.v))) O) : WO X (compareOp .NotIn) d (.tup ds) O k := fun vx vy L H ix iy hr Q q => by
  obtain ⟨a, vs, rfl, s, t⟩ := iy.tup'
  rw [is_v h1 ix]
  obtain rfl := isL_v h2 t
  exact toO op_notIn_seq ⟨a, _, rfl, .inr (hr.st s), f1, f2, q _ _ _ _ _ h (.refl L) (.bl _) hr⟩
/-- xs + ys -/
theorem wo_cat {d e : D} {xs ys : List D} (h1 : TqD O d xs) (h2 : TqD O e ys) (hz : xs.length + ys.length ≤ sizeLine) (h : k (.lst (xs ++ ys)) O) : WO X (binaryOp .Add) d e O k := fun vx vy L H ix iy hr Q q => by
  obtain ⟨a, vs, rfl, s, t⟩ := tqD_of hr h1 ix
  obtain ⟨b, us, rfl, s', t'⟩ := tqD_of hr h2 iy
  refine toO op_cat ⟨a, b, vs, us, rfl, rfl, s, s', by rw [t.length, t'.length]; exact hz, fun p hp => ?_⟩
  obtain ⟨L', le, i, r⟩ := hr.newL hp (t.append t')
  exact q _ _ _ _ _ h le i r
/-- .. as a list that may change -/
theorem wo_catO {d e : D} {xs ys : List D} (h1 : TqD O d xs) (h2 : TqD O e ys) (hz : xs.length + ys.length ≤ sizeLine) (h : ∀ p, O p = none → k (.own p) (put O p (.lst (xs ++ ys)))) : WO X (binaryOp .Add) d e O k := fun vx vy L H ix iy hr Q q => by
  obtain ⟨a, vs, rfl, s, t⟩ := tqD_of hr h1 ix
  obtain ⟨b, us, rfl, s', t'⟩ := tqD_of hr h2 iy
  refine toO op_cat ⟨a, b, vs, us, rfl, rfl, s, s', by rw [t.length, t'.length]; exact hz, fun p hp => ?_⟩
  exact q _ _ _ _ _ (h p (hr.free hp).2.1) (.refl L) (.own p) (hr.newLO hp (t.append t'))
theorem wo_catT {xs ys : List D} (h0 : xs ≠ []) (h00 : ys ≠ []) (hz : xs.length + ys.length ≤ sizeLine) (h : k (.tup (xs ++ ys)) O) : WO X (binaryOp .Add) (.tup xs) (.tup ys) O k := fun vx vy L H ix iy hr Q q => by
  obtain ⟨a, vs, rfl, s, t⟩ := ix.tup'
  obtain ⟨b, us, rfl, s', t'⟩ := iy.tup'
  have e1 : vs ≠ [] := fun z => h0 (List.length_eq_zero_iff.mp (by rw [← t.length, z]; rfl))
  have e2 : us ≠ [] := fun z => h00 (List.length_eq_zero_iff.mp (by rw [← t'.length, z]; rfl))
  refine toO op_catT ⟨a, b, vs, us, rfl, rfl, hr.st s, hr.st s', e1, by rw [t.length, t'.length]; exact hz, fun z => absurd z e2, fun _ p hp => ?_⟩
  obtain ⟨L', le, i, r⟩ := hr.newT hp (t.append t')
  exact q _ _ _ _ _ h le i r

/-! ### == of data at any depth -/
mutual
def D.py : D → PyData
  | .non => .none
  | .bl b => .bool b
  | .int i => .int i
  | .str x => .str x
  | .lst ds => .list (D.pys ds)
  | .tup ds => .tuple (D.pys ds)
  | .scr ds => .list (D.pys ds)
  | _ => .dict []
def D.pys : List D → List PyData
  | [] => []
  | d :: ds => D.py d :: D.pys ds
end
mutual
def D.isPy : D → Bool
  | .non => true
  | .bl _ => true
  | .int _ => true
  | .str _ => true
  | .lst ds => D.arePy ds
  | .tup ds => D.arePy ds
  | .scr ds => D.arePy ds
  | _ => false
def D.arePy : List D → Bool
  | [] => true
  | d :: ds => D.isPy d && D.arePy ds
end
mutual
theorem Is.dp {K : PySem.W.Frag} {L : Lg} {O : Ow} {H : Hp} (r : R K L O H) : ∀ {v : V} {d : D}, Is K L v d → d.isPy = true → Dp K H v d.py
  | _, _, .non, _ => .non
  | _, _, .bl b, _ => .bl b
  | _, _, .int i, _ => .int i
  | _, _, .str x, _ => .str x
  | _, _, .lst h t, e => .lst (.inl (.inl (r.hp _ _ h))) (IsL.dp r t (by simpa [D.isPy] using e))
  | _, _, .scr h t, e => .lst (r.sq h) (IsL.dp r t (by simpa [D.isPy] using e))
  | _, _, .tup h t, e => .tup (r.st h) (IsL.dp r t (by simpa [D.isPy] using e))
  | _, _, .byt _, e => by simp [D.isPy] at e
  | _, _, .ty _, e => by simp [D.isPy] at e
  | _, _, .own _, e => by simp [D.isPy] at e
  | _, _, .box _, e => by simp [D.isPy] at e
  | _, _, .dic _ _ _, e => by simp [D.isPy] at e
  | _, _, .ins _ _ _, e => by simp [D.isPy] at e
theorem IsL.dp {K : PySem.W.Frag} {L : Lg} {O : Ow} {H : Hp} (r : R K L O H) : ∀ {vs : List V} {ds : List D}, IsL K L vs ds → D.arePy ds = true → DpAll K H vs (D.pys ds)
  | _, _, .nil, _ => .nil
  | _, _, .cons h t, e => by
    rw [D.arePy, Bool.and_eq_true] at e
    exact .cons (Is.dp r h e.1) (IsL.dp r t e.2)
end
theorem wo_eqD {d e : D} (hu : X.A.units + 64 < cLine) (h1 : d.isPy = true) (h2 : e.isPy = true) (s1 : SeqAt.shaped d.py = true) (s2 : SeqAt.shaped e.py = true) (h : k (.bl (PyData.eqv d.py e.py)) O) : WO X (compareOp .Eq) d e O k := fun vx vy L H ix iy hr Q q =>
  toO (op_eqD hu) ⟨d.py, e.py, ix.dp hr h1, iy.dp hr h2, s1, s2, q _ _ _ _ _ h (.refl L) (.bl _) hr⟩
theorem wo_neD {d e : D} (hu : X.A.units + 64 < cLine) (h1 : d.isPy = true) (h2 : e.isPy = true) (s1 : SeqAt.shaped d.py = true) (s2 : SeqAt.shaped e.py = true) (h : k (.bl (!PyData.eqv d.py e.py)) O) : WO X (compareOp .NotEq) d e O k := fun vx vy L H ix iy hr Q q =>
  toO (op_neD hu) ⟨d.py, e.py, ix.dp hr h1, iy.dp hr h2, s1, s2, q _ _ _ _ _ h (.refl L) (.bl _) hr⟩

/-! ### calls of built-ins by their names -/
structure Bn (X : Cx) (x : Str) (id : String) : Prop where
  hg : Gl X x
  hm : X.mg x = none
  hv : bootBuiltins x = some (.builtin id)
  hn : x ≠ "__name__"
  hd : (x == ("__debug__" : Str)) = false
structure Bt (X : Cx) (x : Str) (T : String) : Prop where
  hg : Gl X x
  hm : X.mg x = none
  hv : bootBuiltins x = some (.type T)
  hn : x ≠ "__name__"
  hd : (x == ("__debug__" : Str)) = false
theorem we_callB {x : Str} {id : String} {e : Expr} {es : List Expr} {p pos : Pos} (B : Bn X x id) (he : starEach (e :: es) X.env = (false, eval e X.env) :: starEach es X.env) (hpl : (backTo pos (starEach es X.env)).any (·.1) = false)
    (h : WA X (e :: es) Γ O fun ds O1 => WC X (.builtin id) ds O1 k) : WE X (.Call (.Name x p) (e :: es) [] pos) Γ O k := fun σ L H hs hr Q q => by
  refine toE (pe_callB (cu _) B.hg B.hm B.hv (pau _) B.hn B.hd he hpl) ?_
  exact h σ L H hs hr _ fun vs ds O1 L1 H1 h1 e1 i1 r1 => h1 vs L1 H1 i1 r1 Q (q.le e1)
theorem we_callT {x : Str} {T : String} {e : Expr} {es : List Expr} {p pos : Pos} (B : Bt X x T) (he : starEach (e :: es) X.env = (false, eval e X.env) :: starEach es X.env) (hpl : (backTo pos (starEach es X.env)).any (·.1) = false)
    (h : WA X (e :: es) Γ O fun ds O1 => WC X (.type T) ds O1 k) : WE X (.Call (.Name x p) (e :: es) [] pos) Γ O k := fun σ L H hs hr Q q => by
  refine toE (pe_callTy (cu _) B.hg B.hm B.hv (pau _) B.hn B.hd he hpl) ?_
  exact h σ L H hs hr _ fun vs ds O1 L1 H1 h1 e1 i1 r1 => h1 vs L1 H1 i1 r1 Q (q.le e1)
section
variable {L : Lg}
theorem IsL.one' {K : PySem.W.Frag} {vs : List V} {d : D} (h : IsL K L vs [d]) : ∃ v, vs = [v] ∧ Is K L v d := by
  cases h with
  | cons a t => cases t; exact ⟨_, rfl, a⟩
theorem IsL.two' {K : PySem.W.Frag} {vs : List V} {d e : D} (h : IsL K L vs [d, e]) : ∃ v u, vs = [v, u] ∧ Is K L v d ∧ Is K L u e := by
  cases h with
  | cons a t => obtain ⟨u, rfl, b⟩ := t.one'; exact ⟨_, u, rfl, a, b⟩
end
theorem wc_abs (h : k (.int (if i < 0 then -i else i)) O) : WC X (.builtin "abs") [.int i] O k := fun vs L H is hr Q q => by
  obtain ⟨v, rfl, a⟩ := is.one'
  exact toC call_abs ⟨i, by rw [a.int'], q _ _ _ _ _ h (.refl L) (.int _) hr⟩
theorem wc_max2 (hc : X.calm = true) (h : k (.int (if j > i then j else i)) O) : WC X (.builtin "max") [.int i, .int j] O k := fun vs L H is hr Q q => by
  obtain ⟨v, u, rfl, a, b⟩ := is.two'
  exact toC (call_max2 (X := X) hc) ⟨i, j, by rw [a.int', b.int'], q _ _ _ _ _ h (.refl L) (.int _) hr⟩
theorem wc_min2 (hc : X.calm = true) (h : k (.int (if j < i then j else i)) O) : WC X (.builtin "min") [.int i, .int j] O k := fun vs L H is hr Q q => by
  obtain ⟨v, u, rfl, a, b⟩ := is.two'
  exact toC (call_min2 (X := X) hc) ⟨i, j, by rw [a.int', b.int'], q _ _ _ _ _ h (.refl L) (.int _) hr⟩
theorem wc_int (h : k (.int i) O) : WC X (.type "int") [.int i] O k := fun vs L H is hr Q q => by
  obtain ⟨v, rfl, a⟩ := is.one'
  exact toC call_int1 (.inl ⟨i, by rw [a.int'], q _ _ _ _ _ h (.refl L) (.int _) hr⟩)
theorem wc_intB {b : Bool} (h : k (.int (if b then 1 else 0)) O) : WC X (.type "int") [.bl b] O k := fun vs L H is hr Q q => by
  obtain ⟨v, rfl, a⟩ := is.one'
  exact toC call_int1 (.inr ⟨b, by rw [a.bl'], q _ _ _ _ _ h (.refl L) (.int _) hr⟩)
theorem wc_intS {x : Str} {n : Int} (hx : PySem.intText? x = some n) (hl : x.length ≤ 640) (h : k (.int n) O) : WC X (.type "int") [.str x] O k := fun vs L H is hr Q q => by
  obtain ⟨v, rfl, a⟩ := is.one'
  exact toC call_int_str ⟨x, n, by rw [a.str'], hx, hl, q _ _ _ _ _ h (.refl L) (.int _) hr⟩
theorem wc_strI (hl : i.natAbs.log2 < 1920) (h : k (.str (toString i)) O) : WC X (.type "str") [.int i] O k := fun vs L H is hr Q q => by
  obtain ⟨v, rfl, a⟩ := is.one'
  exact toC call_str_int ⟨i, by rw [a.int'], hl, q _ _ _ _ _ h (.refl L) (.str _) hr⟩
theorem wc_lenL {d : D} {ds : List D} (hd : SqD O d ds) (h : k (.int ds.length) O) : WC X (.builtin "len") [d] O k := fun vs L H is hr Q q => by
  obtain ⟨v, rfl, a⟩ := is.one'
  obtain ⟨p, us, rfl, s, t⟩ := sqD_of hr hd a
  exact toC call_len_seq ⟨p, us, rfl, .inl s, by rw [t.length]; exact q _ _ _ _ _ h (.refl L) (.int _) hr⟩
theorem wc_lenT {ds : List D} (h : k (.int ds.length) O) : WC X (.builtin "len") [.tup ds] O k := fun vs L H is hr Q q => by
  obtain ⟨v, rfl, a⟩ := is.one'
  obtain ⟨p, us, rfl, s, t⟩ := a.tup'
  exact toC call_len_seq ⟨p, us, rfl, .inr (hr.st s), by rw [t.length]; exact q _ _ _ _ _ h (.refl L) (.int _) hr⟩
theorem wc_lenS {x : Str} (hl : x.length ≤ sizeLine) (h : k (.int x.length) O) : WC X (.builtin "len") [.str x] O k := fun vs L H is hr Q q => by
  obtain ⟨v, rfl, a⟩ := is.one'
  exact toC call_len_str ⟨x, by rw [a.str'], hl, q _ _ _ _ _ h (.refl L) (.int _) hr⟩
theorem wc_divmod (hc : 0 < j ∧ j < 1073741824) (h : k (.tup [.int (i / j), .int (i % j)]) O) : WC X (.builtin "divmod") [.int i, .int j] O k := fun vs L H is hr Q q => by
  obtain ⟨v, u, rfl, a, b⟩ := is.two'
  refine toC call_divmod ⟨i, j, by rw [a.int', b.int'], hc, fun p hp => ?_⟩
  obtain ⟨L', le, z, r⟩ := hr.newT (vs := [.int (i / j), .int (i % j)]) (ds := [.int (i / j), .int (i % j)]) hp (.cons (.int _) (.cons (.int _) .nil))
  exact q _ _ _ _ _ h le z r
theorem wc_listL {d : D} {ds : List D} (hd : SqD O d ds) (h : k (.lst ds) O) : WC X (.type "list") [d] O k := fun vs L H is hr Q q => by
  obtain ⟨v, rfl, a⟩ := is.one'
  obtain ⟨p, us, rfl, s, t⟩ := sqD_of hr hd a
  refine toC call_list_of ⟨p, us, rfl, .inl s, fun l hl => ?_⟩
  obtain ⟨L', le, z, r⟩ := hr.newL hl t
  exact q _ _ _ _ _ h le z r
theorem wc_listLO {d : D} {ds : List D} (hd : SqD O d ds) (h : ∀ p, O p = none → k (.own p) (put O p (.lst ds))) : WC X (.type "list") [d] O k := fun vs L H is hr Q q => by
  obtain ⟨v, rfl, a⟩ := is.one'
  obtain ⟨p, us, rfl, s, t⟩ := sqD_of hr hd a
  refine toC call_list_of ⟨p, us, rfl, .inl s, fun l hl => ?_⟩
  exact q _ _ _ _ _ (h l (hr.free hl).2.1) (.refl L) (.own l) (hr.newLO hl t)
theorem wc_listT {ds : List D} (h : k (.lst ds) O) : WC X (.type "list") [.tup ds] O k := fun vs L H is hr Q q => by
  obtain ⟨v, rfl, a⟩ := is.one'
  obtain ⟨p, us, rfl, s, t⟩ := a.tup'
  refine toC call_list_of ⟨p, us, rfl, .inr (hr.st s), fun l hl => ?_⟩
  obtain ⟨L', le, z, r⟩ := hr.newL hl t
  exact q _ _ _ _ _ h le z r
theorem wc_tupL {d : D} {ds : List D} (hd : SqD O d ds) (h : k (.tup ds) O) : WC X (.type "tuple") [d] O k := fun vs L H is hr Q q => by
  obtain ⟨v, rfl, a⟩ := is.one'
  obtain ⟨p, us, rfl, s, t⟩ := sqD_of hr hd a
  refine toC call_tuple_of ⟨p, us, rfl, .inl ⟨s, fun l hl => ?_⟩⟩
  obtain ⟨L', le, z, r⟩ := hr.newT hl t
  exact q _ _ _ _ _ h le z r
theorem wc_tupT {ds : List D} (h : k (.tup ds) O) : WC X (.type "tuple") [.tup ds] O k := fun vs L H is hr Q q => by
  obtain ⟨v, rfl, a⟩ := is.one'
  obtain ⟨p, us, rfl, s, t⟩ := a.tup'
  exact toC call_tuple_of ⟨p, us, rfl, .inr ⟨hr.st s, q _ _ _ _ _ h (.refl L) (.tup s t) hr⟩⟩
theorem isL_bl {K : PySem.W.Frag} {L : Lg} : ∀ {vs : List V} {bs : List Bool}, IsL K L vs (bs.map D.bl) → vs = bs.map V.bl
  | _, [], h => by cases h; rfl
  | _, b :: bs, h => by
    cases h with
    | cons a t => rw [a.bl', isL_bl t]; rfl
theorem isL_str {K : PySem.W.Frag} {L : Lg} : ∀ {vs : List V} {bs : List Str}, IsL K L vs (bs.map D.str) → vs = bs.map V.str
  | _, [], h => by cases h; rfl
  | _, b :: bs, h => by
    cases h with
    | cons a t => rw [a.str', isL_str t]; rfl
theorem isL_int {K : PySem.W.Frag} {L : Lg} : ∀ {vs : List V} {bs : List Int}, IsL K L vs (bs.map D.int) → vs = bs.map V.int
  | _, [], h => by cases h; rfl
  | _, b :: bs, h => by
    cases h with
    | cons a t => rw [a.int', isL_int t]; rfl
theorem is_strs {K : PySem.W.Frag} {L : Lg} : ∀ (bs : List Str), IsL K L (bs.map V.str) (bs.map D.str)
  | [] => .nil
  | b :: bs => .cons (.str b) (is_strs bs)
theorem is_ints {K : PySem.W.Frag} {L : Lg} : ∀ (bs : List Int), IsL K L (bs.map V.int) (bs.map D.int)
  | [] => .nil
  | b :: bs => .cons (.int b) (is_ints bs)
theorem wc_all {d : D} {bs : List Bool} (hc : X.calm = true) (hd : SqD O d (bs.map D.bl)) (h : k (.bl (bs.all id)) O) : WC X (.builtin "all") [d] O k := fun vs L H is hr Q q => by
  obtain ⟨v, rfl, a⟩ := is.one'
  obtain ⟨p, us, rfl, s, t⟩ := sqD_of hr hd a
  obtain rfl := isL_bl t
  exact toC (cr_all (X := X) hc) ⟨p, bs, rfl, s, q _ _ _ _ _ h (.refl L) (.bl _) hr⟩
theorem wc_any {d : D} {bs : List Bool} (hc : X.calm = true) (hd : SqD O d (bs.map D.bl)) (h : k (.bl (bs.any id)) O) : WC X (.builtin "any") [d] O k := fun vs L H is hr Q q => by
  obtain ⟨v, rfl, a⟩ := is.one'
  obtain ⟨p, us, rfl, s, t⟩ := sqD_of hr hd a
  obtain rfl := isL_bl t
  exact toC (cr_any (X := X) hc) ⟨p, bs, rfl, s, q _ _ _ _ _ h (.refl L) (.bl _) hr⟩
/-- isinstance -/
inductive TyD : D → String → Prop
  | non : TyD .non "NoneType"
  | bl (b : Bool) : TyD (.bl b) "bool"
  | int (n : Int) : TyD (.int n) "int"
  | str (x : Str) : TyD (.str x) "str"
  | byt (x : Array UInt8) : TyD (.byt x) "bytes"
  | lst (ds : List D) : TyD (.lst ds) "list"
  | tup (ds : List D) : TyD (.tup ds) "tuple"
  | dic (ds : List (Key × D)) : TyD (.dic ds) "dict"
theorem tyD_of {L : Lg} {H : Hp} (hr : R X.K L O H) {v : V} {d : D} {T : String} (h : TyD d T) (i : Is X.K L v d) : TyX X.K H v (.type T) := by
  cases h with
  | non => cases i; exact .base .non
  | bl b => cases i; exact .base (.bl b)
  | int b => cases i; exact .base (.int b)
  | str b => cases i; exact .base (.str b)
  | byt b => cases i; exact .byt b
  | lst ds => obtain ⟨a, vs, rfl, s, t⟩ := i.lst'; exact .base (.lst (hr.hp _ _ s))
  | tup ds =>
    obtain ⟨a, vs, rfl, s, t⟩ := i.tup'
    rcases hr.st s with (s | ⟨o, s⟩) | ⟨o, its, n, s1, s2, _⟩
    · exact .base (.tup s)
    · exact .fTuple s
    · exact .kTuple s1 s2
  | dic ds =>
    obtain ⟨a, kvs, rfl, s, t⟩ := i.dic'
    exact .base (.dK (hr.hp _ _ s))
theorem wc_isi {d : D} {T U : String} {b : Bool} (ht : TyD d T) (hk : kitB T U = some b) (h : k (.bl b) O) : WC X (.builtin "isinstance") [d, .ty U] O k := fun vs L H is hr Q q => by
  obtain ⟨v, u, rfl, a, c⟩ := is.two'
  obtain rfl := c.ty'
  exact toC call_isi ⟨v, .ty U, _, _, b, rfl, .ty U, tyD_of hr ht a, kit_ty hk, q _ _ _ _ _ h (.refl L) (.bl _) hr⟩
/-- isinstance(x, (T, U)) -/
theorem wc_isi2 {d : D} {T U1 U2 : String} {b1 b2 : Bool} (ht : TyD d T) (hk1 : kitB T U1 = some b1) (hk2 : kitB T U2 = some b2) (h : k (.bl (b1 || b2)) O) : WC X (.builtin "isinstance") [d, .tup [.ty U1, .ty U2]] O k := fun vs L H is hr Q q => by
  obtain ⟨v, u, rfl, a, c⟩ := is.two'
  obtain ⟨tp, cs, rfl, s, t⟩ := c.tup'
  obtain ⟨c1, c2, rfl, t1, t2⟩ := t.two'
  obtain rfl := t1.ty'
  obtain rfl := t2.ty'
  have hany : PySem.W.kitAny X.K (.type T) [.type U1, .type U2] = some (b1 || b2) := by
    refine kitAny_cons (kit_ty hk1) (fun e1 => ?_) (fun e1 => by rw [e1]; rfl)
    subst e1
    refine kitAny_cons (kit_ty hk2) (fun e2 => ?_) (fun e2 => by rw [e2]; rfl)
    subst e2
    exact kitAny_nil
  have fin := q _ _ _ _ _ h (.refl L) (.bl (b1 || b2)) hr
  rcases hr.st s with (s | ⟨o, s⟩) | ⟨o, its, n, s1, s2, s3, s4, s5⟩
  · exact toC call_isiT ⟨v, tp, _, _, [.type U1, .type U2], _, rfl, s, .cons (.ty _) (.cons (.ty _) .nil), tyD_of hr ht a, hany, fin⟩
  · exact fun pins s' σ us I rx => by
      obtain ⟨u1, u2, rfl, r1, r2⟩ := vals2 rx
      cases (show u2 =
          Value.ref tp from r2)
      obtain ⟨P, Z, pz, hx⟩ := kit_of I r1 (tyD_of hr ht a)
      obtain ⟨_, _, its, rv, o', h1, h2, n, h3⟩ := (show ObjOk X.prog X.w H s'.heap tp (.frz o (.tup [V.ty U1, V.ty U2])) from I.hok tp _ s)
      have e3 : its = [.type U1, .type U2] := by
        cases rv with
        | cons a1 rv => cases rv with
          | cons a2 rv => cases rv; cases a1; cases a2; rfl
      obtain ⟨oc, od, dt, sl⟩ := o'
      simp only at h2 h3
      subst h2 h3 e3
      exact PySem.W.kia_tup Z I.kIn pz h1 hany hx fun tk => ⟨.bl _, H, I.tok tk, rfl, fin⟩
  · have e3 : its.toList = [.type U1, .type U2] := by
      cases hb : its.toList with
      | nil => rw [hb] at s5; cases s5
      | cons a1 r1 =>
        rw [hb] at s5
        cases s5 with
        | cons z1 s5 => cases s5 with
          | cons z2 s5 => cases s5; cases z1; cases z2; rfl
    obtain ⟨oc, od, dt, sl⟩ := o
    simp only at s2 s3
    subst s2 s3
    refine toC call_isiK ⟨v, tp, od, [.type U1, .type U2], n, sl, _, _, rfl, ?_, tyD_of hr ht a, hany, fin⟩
    rw [s1, ← e3]
end
end DL
/-! DL, part E: subscripts, attributes, methods, stores, loops, comprehensions over data -/
namespace DL
open PySem PySem.Spec PyProof.Rows L2 RZ

def uI (X : Cx) : R2 := fun x y H Q => ∀ value slice pins s σ v u, Inv X pins σ H s → RelV x v → RelV y u → subscripted slice false v u = operate [v, u] (getItem v u) → wpAny (model X.prog X.w) X.A (subscriptTail value slice v u) (EP X pins σ Q) X.xe s
def uM (X : Cx) (id : String) : V → List V → Hp → VK → Prop := fun x xs H Q => ∀ pins s σ v us, Inv X pins σ H s → RelV x v → Vals xs us → wpAny (model X.prog X.w) X.A (call (.builtin id) (v :: us)) (EP X pins σ Q) X.xe s
def uG (X : Cx) (tg : Expr) : TG := fun v σ H q => ∀ pins s u, Inv X pins σ H s → RelV v u → wpAny (model X.prog X.w) X.A (assign tg X.env u) (fun _ s' => ∃ σ' H', Inv X pins σ' H' s' ∧ q σ' H') X.xe s
def uGs (X : Cx) (ts : List Expr) : TGs := fun vs σ H q => ∀ pins s us, Inv X pins σ H s → Vals vs us → wpAny (model X.prog X.w) X.A (assignInOrder ((assignEach ts X.env).map (·.2)) us) (fun _ s' => ∃ σ' H', Inv X pins σ' H' s' ∧ q σ' H') X.xe s
section
variable {X : Cx} {σ : L2.St} {H : Hp}
theorem iu : IxR X (uI X) := fun value slice pins s σ H x y v u Q I rx ry h hs => h value slice pins s σ v u I rx ry hs
theorem mu (id : String) : MtR X id (uM X id) := fun pins s σ H x xs v us Q I rx rs h => h pins s σ v us I rx rs
theorem pgu (tg : Expr) : PG X tg (uG X tg) := ⟨fun pins s σ H v u Q I r h => h pins s u I r⟩
theorem pgsu (ts : List Expr) : PGs X ts (uGs X ts) := ⟨fun pins s σ H vs us Q I r h => h pins s us I r⟩
theorem toI {r : R2} (h : IxR X r) {x y : V} {Q : VK} (q : r x y H Q) : uI X x y H Q := fun value slice pins s σ v u I rx ry hs => h value slice pins s σ H x y v u Q I rx ry q hs
theorem toM {id : String} {r : V → List V → Hp → VK → Prop} (h : MtR X id r) {x : V} {xs : List V} {Q : VK} (q : r x xs H Q) : uM X id x xs H Q := fun pins s σ v us I rx rs => h pins s σ H x xs v us Q I rx rs q
theorem toG {tg : Expr} {t : TG} (h : PG X tg t) {v : V} {q} (z : t v σ H q) : uG X tg v σ H q := fun pins s u I r => h.run pins s σ H v u q I r z
theorem toGs {ts : List Expr} {t : TGs} (h : PGs X ts t) {vs : List V} {q} (z : t vs σ H q) : uGs X ts vs σ H q := fun pins s us I r => h.run pins s σ H vs us q I r z
end
def WI (X : Cx) (x y : D) (O : Ow) (k : KD) : Prop := ∀ vx vy L H, Is X.K L vx x → Is X.K L vy y → R X.K L O H → ∀ Q, Fol X.K L k Q → uI X vx vy H Q
def WM (X : Cx) (id : String) (x : D) (ds : List D) (O : Ow) (k : KD) : Prop := ∀ vx vs L H, Is X.K L vx x → IsL X.K L vs ds → R X.K L O H → ∀ Q, Fol X.K L k Q → uM X id vx vs H Q
def WG (X : Cx) (tg : Expr) (d : D) (Γ : Sg) (O : Ow) (k : Sg → Ow → Prop) : Prop := ∀ v σ L H, Is X.K L v d → Sl X.K L σ Γ → R X.K L O H → ∀ q, FolN X.K L k q → uG X tg v σ H q
def WGs (X : Cx) (ts : List Expr) (ds : List D) (Γ : Sg) (O : Ow) (k : Sg → Ow → Prop) : Prop := ∀ vs σ L H, IsL X.K L vs ds → Sl X.K L σ Γ → R X.K L O H → ∀ q, FolN X.K L k q → uGs X ts vs σ H q

theorem atI_is {K : PySem.W.Frag} {L : Lg} {vs : List V} {ds : List D} {i : Int} {d : D} (h : IsL K L vs ds) (e : atI ds i = some d) : ∃ v, atI vs i = some v ∧ Is K L v d := by
  unfold atI at e ⊢
  rw [h.length]
  cases q : ixN ds.length i with
  | none => rw [q]
        at e; cases e
  | some j =>
    rw [q] at e
    exact h.get e

section
variable {X : Cx} {Γ : Sg} {O : Ow} {k : KD}
/-! ### subscripts -/
theorem we_ix {a b pos} (hb : PlainIx b) (h : WE X a Γ O fun x O1 => WE X b Γ O1 fun y O2 => WI X x y O2 k) : WE X (.Subscript a b pos) Γ O k := fun σ L H hs hr Q q => by
  refine toE (pe_ix iu (pu a) (pu b) hb) ?_
  refine h σ L H hs hr _ fun x dx O1 L1 H1 h1 e1 i1 r1 => ?_
  refine h1 σ L1 H1 (hs.mono e1) r1 _ fun y dy O2 L2 H2 h2 e2 i2 r2 => ?_
  exact h2 x y L2 H2 (i1.mono e2) i2 r2 Q (q.le (e1.trans e2))
theorem wi_list {d e : D} {ds : List D} {i : Int} (hd : SqD O d ds) (he : atI ds i = some e) (h : k e O) : WI X d (.int i) O k := fun vx vy L H ix iy hr Q q => by
  obtain ⟨a, vs, rfl, s, t⟩ := sqD_of hr hd ix
  obtain ⟨v, e1, e2⟩ := atI_is t he
  exact toI ix_list ⟨a, vs, i, v, rfl, iy.int', s, e1, q _ _ _ _ _ h (.refl L) e2 hr⟩
theorem wi_tup {e : D} {ds : List D} {i : Int} (he : atI ds i = some e) (h : k e O) : WI X (.tup ds) (.int i) O k := fun vx vy L H ix iy hr Q q => by
  obtain ⟨a, vs, rfl, s, t⟩ := ix.tup'
  obtain ⟨v, e1, e2⟩ := atI_is t he
  exact toI ix_tup ⟨a, vs, i, v, rfl, iy.int', hr.st s, e1, q _ _ _ _ _ h (.refl L) e2 hr⟩
theorem wi_str {z : Str} {i : Int} {c : Nat} (hz : z.length ≤ sizeLine) (he : atI z.cps.toList i = some c) (h : k (.str ⟨#[c]⟩) O) : WI X (.str z) (.int i) O k := fun vx vy L H ix iy hr Q q =>
  toI ix_str ⟨z, i, c, ix.str', iy.int', hz, he, q _ _ _ _ _ h (.refl L) (.str _) hr⟩
/-- the key of a datum -/
def kD : Key → D
  | .inl i => .int i
  | .inr x => .str x
theorem kD_is {K : PySem.W.Frag} {L : Lg} {v : V} {y : Key} (h : Is K L v (kD y)) : v = kV y := by
  cases y with
  | inl i => exact h.int'
  | inr x => exact h.str'
/-- a datum that reads as a dict -/
def DcD (O : Ow) (d : D) (kds : List (Key × D)) : Prop := d = .dic kds ∨ ∃ p, d = .own p ∧ O p = some (.dic kds)
theorem dcD_of {K : PySem.W.Frag} {L : Lg} {H : Hp} (r : R K L O H) {v : V} {d : D} {kds : List (Key × D)} (h : DcD O d kds) (i : Is K L v d) : ∃ a kvs, v = .ref a ∧ H a = some (.dK kvs) ∧ kvs.map (·.1) = kds.map (·.1) ∧ IsL K L (kvs.map (·.2)) (kds.map (·.2)) := by
  rcases h with rfl | ⟨p, rfl, h⟩
  · obtain ⟨a, vs, e, h1, h2, h3⟩ := i.dic'
    exact ⟨a, vs, e, r.hp _ _ h1, h2, h3⟩
  · obtain ⟨vs, h1, h2, h3⟩ := own_dic r h
    exact ⟨p, vs, i.own', h1, h2, h3⟩
theorem we_dget {o i : Expr} {pos} (hu : X.A.units + 1 < cLine) (hn : NoSl i) (h : WE X o Γ O fun x O1 => WE X i Γ O1 fun y O2 => ∃ kds y' e, DcD O2 x kds ∧ y = kD y' ∧ valD kds y' = some e ∧ k e O2) : WE X (.Subscript o i pos) Γ O k := fun σ L H hs hr Q q => by
  refine toE (pe_dget hu (pu o) (pu i) hn) ?_
  refine h σ L H hs hr _ fun x dx O1 L1 H1 h1 e1 i1 r1 => ?_
  refine h1 σ L1 H1 (hs.mono e1) r1 _ fun y dy O2 L2 H2 h2 e2 i2 r2 => ?_
  obtain ⟨kds, y', e, hd, rfl, hv, h3⟩ := h2
  obtain ⟨a, kvs, rfl, s1, s2, s3⟩ := dcD_of r2 hd (i1.mono e2)
  obtain ⟨v, g1, g2⟩ := (kv_val s2 s3 y').1 e hv
  refine ⟨a, v, rfl, ?_, q _ _ _ _ _ h3 (e1.trans e2) g2 r2⟩
  rw [kD_is i2]
  exact .inl ⟨kvs, y', .inl s1, rfl, g1.symm⟩
/-- e[lo:hi] -/
def uSl (X : Cx) : V → Option Int → Option Int → Hp → VK → Prop := fun x lo hi H Q => ∀ pins s σ v vl vu sl, Inv X pins σ H s → RelV x v → s.heap.IsSliceOf sl vl vu .none → IsPart vl lo → IsPart vu hi →
  ∃ T id, typeLookup (.type T) "__getitem__" = pure (some (.builtin
      id)) ∧ s.TypeIs v T ∧ wpAny (model X.prog X.w) X.A (getItem v (.ref sl)) (EP X pins σ Q) X.xe s
theorem slu : SlR X (uSl X) := fun pins s σ H x v vl vu lo hi sl Q I rx hs pl pu h => h pins s σ v vl vu sl I rx hs pl pu
theorem toSl {r} (h : SlR X r) {H : Hp} {x : V} {lo hi : Option Int} {Q : VK} (q : r x lo hi H Q) : uSl X x lo hi H Q := fun pins s σ v vl vu sl I rx hs pl pu => h pins s σ H x v vl vu lo hi sl Q I rx hs pl pu q
/-- a part of a slice -/
def WP (X : Cx) (p : Option Expr) (Γ : Sg) (O : Ow) (kp : Option Int → Ow → Prop) : Prop := match p with
  | none => kp none O
  | some e => WE X e Γ O fun d O1 => ∃ i, d = .int i ∧ kp (some i) O1
def WSl (X : Cx) (x : D) (lo hi : Option Int) (O : Ow) (k : KD) : Prop := ∀ vx L H, Is X.K L vx x → R X.K L O H → ∀ Q, Fol X.K L k Q → uSl X vx lo hi H Q
theorem po_univ (p : Option Expr) : ∃ t : TO, PO X p t ∧ ∀ Γ O kp, WP X p Γ O kp → ∀ σ L H, Sl X.K L σ Γ → R X.K L O H → ∀ Q : Option Int → Hp → Prop, (∀ l O' L' H', kp l O' → L.le L' → R X.K L' O' H' → Q l H') → t σ H Q := by
  cases p with
  | none => exact ⟨_, po_none, fun Γ O kp h σ L H hs hr Q q => q _ _ _ _ h (.refl L) hr⟩
  | some e =>
    refine ⟨_, po_some (pu e), fun Γ O kp h σ L H hs hr Q q => ?_⟩
    refine (show WE X e Γ O fun d O1 => ∃ i, d = .int i ∧ kp (some i) O1 from h) σ L H hs hr _ fun v d O1 L1 H1 h1 e1 i1 r1 => ?_
    obtain ⟨i, rfl, h1⟩ := h1
    exact ⟨i, i1.int', q _ _ _ _ h1 e1 r1⟩
theorem we_slice {e : Expr} {lo hi : Option Expr} {p2 pos} (h : WE X e Γ O fun x O1 => WP X lo Γ O1 fun l O2 => WP X hi Γ O2 fun u O3 => WSl X x l u O3 k) : WE X (.Subscript e (.Slice lo hi none p2) pos) Γ O k := fun σ L H hs hr Q q => by
  obtain ⟨tl, hl, gl⟩ := po_univ (X := X) lo
  obtain ⟨th, hh, gh⟩ := po_univ (X := X) hi
  refine toE (pe_slice slu (pu e) hl hh) ?_
  refine h σ L H hs hr _ fun x dx O1 L1 H1 h1 e1 i1 r1 => ?_
  refine gl _ _ _ h1 σ L1 H1 (hs.mono e1) r1 _ fun l O2 L2 H2 h2 e2 r2 => ?_
  refine gh _ _ _ h2 σ L2 H2 ((hs.mono e1).mono e2) r2 _ fun u O3 L3 H3 h3 e3 r3 => ?_
  exact h3 x L3 H3 (i1.mono (e2.trans e3)) r3 Q (q.le ((e1.trans e2).trans e3))
/-- the slice of a list of data -/
def cutD (xs : List D) (lo hi : Option Int) : List D := (xs.drop (HT.sIx xs.length 0 lo)).take (HT.sIx xs.length xs.length hi - HT.sIx xs.length 0 lo)
theorem cut_is {K : PySem.W.Frag} {L : Lg} {vs : List V} {ds : List D} (h : IsL K L vs ds) (lo hi : Option Int) : IsL K L (cutV vs lo hi) (cutD ds lo hi) := by
  unfold cutV cutD
  rw [h.length]
  exact (h.drop _).take _
theorem wsl_list {d : D} {ds : List D} {lo hi : Option Int} (hd : SqD O d ds) (h : k (.lst (cutD ds lo hi)) O) : WSl X d lo hi O k := fun vx L H ix hr Q q => by
  obtain ⟨a, vs, rfl, s, t⟩ := sqD_of hr hd ix
  refine toSl sl_list ⟨a, vs, rfl, s, fun p hp => ?_⟩
  obtain ⟨L', le, i, r⟩ := hr.newL hp (cut_is t lo hi)
  exact q _ _ _ _ _ h le i r
theorem wsl_str {z : Str} {lo hi : Option Int} (hz : z.length ≤ sizeLine) (h : k (.str (cutS z lo hi)) O) : WSl X (.str z) lo hi O k := fun vx L H ix hr Q q =>
  toSl sl_str ⟨z, ix.str', hz, q _ _ _ _ _ h (.refl L) (.str _) hr⟩

/-! ### attributes -/
/-- a datum that is one of a class, with these attributes -/
def InD (O : Ow) (d : D) (C : Addr) (fds : List (Str × D)) : Prop := d = .ins C fds ∨ ∃ p, d = .own p ∧ O p = some (.ins C fds)
theorem inD_of {K : PySem.W.Frag} {L : Lg} {H : Hp} (r : R K L O H) {v : V} {d : D} {C : Addr} {fds : List (Str × D)} (h : InD O d C fds) (i : Is K L v d) : ∃ a dx fs, v = .ref a ∧ H a = some (.ins C dx fs) ∧ fs.map (·.1) = fds.map (·.1) ∧ IsL K L (fs.map (·.2)) (fds.map (·.2)) := by
  rcases h with rfl | ⟨p, rfl, h⟩
  · obtain ⟨a, dx, vs, e, h1, h2, h3⟩ := i.ins'
    exact ⟨a, dx, vs, e, r.hp _ _ h1, h2, h3⟩
  · obtain ⟨dx, vs, h1, h2, h3⟩ := own_ins r h
    exact ⟨p, dx, vs, i.own', h1, h2, h3⟩
theorem lookup_is {K : PySem.W.Frag} {L : Lg} : ∀ {fs : List (Str × V)} {fds : List (Str × D)} {f : Str}, fs.map (·.1) = fds.map (·.1) → IsL K L (fs.map (·.2)) (fds.map (·.2)) → (∀ d, fds.lookup f = some d → ∃ v, fs.lookup f = some v ∧ Is K L v d) ∧ (fds.lookup f = none → fs.lookup f = none)
  | [], [], _, _, _ => ⟨fun d e => by simp at e, fun _ => rfl⟩
  | (a, v) :: fs, (b, d) :: fds, f, e, h => by
    simp only [List.map_cons,
        List.cons.injEq] at e
    obtain ⟨e1, e2⟩ := e
    subst e1
    rw [List.map_cons,
        List.map_cons] at h
    cases h with
    | cons h1 h2 =>
      have ih := lookup_is (f := f) e2 h2
      cases c : f == a with
      | true =>
        refine ⟨fun d' q => ?_, fun q => ?_⟩
        · rw [List.lookup_cons, c] at q
          have q' : d = d' := Option.some.inj q
          subst q'
          exact ⟨v, by rw [List.lookup_cons, c], h1⟩
        · rw [List.lookup_cons, c] at q
          cases q
      | false =>
        refine ⟨fun d' q => ?_, fun q => ?_⟩
        · rw [List.lookup_cons, c] at q
          obtain ⟨v', a1, a2⟩ := ih.1 d' q
          exact ⟨v', by rw [List.lookup_cons, c]; exact a1, a2⟩
        · rw [List.lookup_cons, c] at q
          rw [List.lookup_cons, c]; exact ih.2 q
  | [], _ :: _, _, e, _ => by simp at e
  | _ :: _, [], _, e, _ => by simp at e
theorem we_fld {e : Expr} {f : Str} {pos} (hb : attributeBase e f X.env (eval e X.env) = eval e X.env) (h : WE X e Γ O fun x O1 => ∃ C fds d, InD O1 x C fds ∧ Cls X.K C ∧ NoAttr X.K C f ∧ fds.lookup f = some d ∧ k d O1) : WE X (.Attribute e f pos) Γ O k := fun σ L H hs hr Q q => by
  refine toE (pe_fld (pu e) hb) ?_
  refine h σ L H hs hr _ fun x dx O1 L1 H1 h1 e1 i1 r1 => ?_
  obtain ⟨C, fds, d, hi, hc, hn, hl, h2⟩ := h1
  obtain ⟨a, dx, fs, rfl, s1, s2, s3⟩ := inD_of r1 hi i1
  obtain ⟨v, g1, g2⟩ := (lookup_is s2 s3).1 d hl
  exact ⟨a, C, dx, fs, v, rfl, s1, hc, hn, g1, q _ _ _ _ _ h2 e1 g2 r1⟩

/-! ### methods of built-in types -/
def TyM (O : Ow) (x : D) (T : String) : Prop := match x with
  | .str _ => T = "str"
  | .int _ => T = "int"
  | d => (T = "list" ∧ ∃ ds, SqD O d ds) ∨ (T = "dict" ∧ ∃ kds, DcD O d kds)
theorem tyM_of {L : Lg} {H : Hp} (hr : R X.K L O H) {v : V} {d : D} {T : String} (h : TyM O d T) (i : Is X.K L v d) : tyV X.K T v H := by
  have main : ((T = "list" ∧ ∃ ds, SqD O d ds) ∨ (T = "dict" ∧ ∃ kds, DcD O d kds)) → tyV X.K T v H := fun z => by
    rcases z with ⟨e, ds, z⟩ | ⟨e, kds, z⟩
    · obtain ⟨a, vs, rfl, s, _⟩ := sqD_of hr z i
      exact .inl ⟨e, vs, s⟩
    · obtain ⟨a, kvs, rfl, s, _⟩ := dcD_of hr z i
      exact .inr (.inr (.inl ⟨e, .inl ⟨kvs, s⟩⟩))
  cases d with
  | str x => obtain rfl := i.str'; exact h
  | int x => obtain rfl := i.int'; exact h
  | non => exact main h
  | bl _ => exact main h
  | byt _ => exact main h
  | ty _ => exact main h
  | own _ => exact main h
  | box => exact main h
  | lst _ => exact main h
  | tup _ => exact main h
  | dic _ => exact main h
  | ins _ _ => exact main h
  | scr _ => exact main h
  | exc _ _ _ => exact main h
  | any => exact main h
  | deal => exact main h
  | nums => exact main h
theorem we_bm {T id : String} {name : Str} {o e : Expr} {es : List Expr} {apos cpos : Pos} (pa : PlainAttrs T) (slot : Slot T name id) (hty : typeOf (.builtin id) = pure (.type "method_descriptor"))
    (hbase : attributeBase o name X.env (eval o X.env) = eval o X.env)
    (hfew : ((backTo cpos (starEach (e :: es) X.env)).all (fun x => !x.1) && (backToKw cpos (keywordEach [] X.env)).all (fun x => x.1.isSome) && decide ((e :: es).length + ([] : List Keyword).length + (if ([] : List Keyword).isEmpty then 0 else 1) < 30)) = true)
    (hline : (apos.endLine == cpos.line) = true) (hs : starEach (e :: es) X.env = (false, eval e X.env) :: starEach es X.env) (hplain : (backTo cpos (starEach es X.env)).any (·.1) = false)
    (h : WE X o Γ O fun x O1 => TyM O1 x T ∧ WA X (e :: es) Γ O1 fun ds O2 => WM X id x ds O2 k) : WE X (.Call (.Attribute o name apos) (e :: es) [] cpos) Γ O k := fun σ L H hss hr Q q => by
  refine toE (pe_bm pa slot hty (mu id) (pu o) (pau _) hbase hfew hline hs hplain) ?_
  refine h σ L H hss hr _ fun x dx O1 L1 H1 h1 e1 i1 r1 => ⟨tyM_of r1 h1.1 i1, ?_⟩
  refine h1.2 σ L1 H1 (hss.mono e1) r1 _ fun vs ds O2 L2 H2 h2 e2 i2 r2 => ?_
  exact h2 x vs L2 H2 (i1.mono e2) i2 r2 Q (q.le (e1.trans e2))
theorem we_bm0 {T id : String} {name : Str} {o : Expr} {apos cpos : Pos} (pa : PlainAttrs T) (slot : Slot T name id) (hty : typeOf (.builtin id) = pure (.type "method_descriptor"))
    (hbase : attributeBase o name X.env (eval o X.env) = eval o X.env) (hline : (apos.endLine == cpos.line) = true)
    (h : WE X o Γ O fun x O1 => TyM O1 x T ∧ WM X id x [] O1 k) : WE X (.Call (.Attribute o name apos) [] [] cpos) Γ O k := fun σ L H hss hr Q q => by
  refine toE (pe_bm0 pa slot hty (mu id) (pu o) hbase hline) ?_
  refine h σ L H hss hr _ fun x dx O1 L1 H1 h1 e1 i1 r1 => ⟨tyM_of r1 h1.1 i1, ?_⟩
  exact h1.2 x [] L1 H1 i1 .nil r1 Q (q.le e1)
theorem wm_append {p : Addr} {ds : List D} {d : D} (ho : O p = some (.lst ds)) (hz : ds.length < sizeLine) (h : k .non (put O p (.lst (ds ++ [d])))) : WM X "list.append" (.own p) [d] O k := fun vx vs L H ix is hr Q q => by
  obtain ⟨v, rfl, i1⟩ := is.one'
  obtain ⟨xs, h1, h2⟩ := own_lst hr ho
  obtain rfl := ix.own'
  refine toM mt_append ⟨p, xs, v, rfl, rfl, h1, by rw [h2.length]; exact hz, ?_⟩
  exact q _ _ _ _ _ h (.refl L) .non (hr.change ho ⟨_, upd_same, h2.append (.cons i1 .nil)⟩)
theorem wm_popAt {p : Addr} {ds : List D} {i : Int} {j : Nat} {d : D} (ho : O p = some (.lst ds)) (h1 : -(2 ^ 63) ≤ i) (h2 : i < 2 ^ 63) (hj : seqIndex? i ds.length = some j) (hd : ds[j]? = some d) (h : k d (put O p (.lst (ds.eraseIdx j)))) : WM X "list.pop" (.own p) [.int i] O k := fun vx vs L H ix is hr Q q => by
  obtain ⟨v, rfl, i1⟩ := is.one'
  obtain ⟨xs, g1, g2⟩ := own_lst hr ho
  obtain rfl := ix.own'
  obtain ⟨v', e1, e2⟩ := g2.get hd
  refine toM mt_popAt ⟨p, xs, i, j, v', rfl, by rw [i1.int'], g1, h1, h2, by rw [g2.length]; exact hj, e1, ?_⟩
  exact q _ _ _ _ _ h (.refl L) e2 (hr.change ho ⟨_, upd_same, g2.eraseIdx j⟩)

/-! ### targets -/
variable {kn : Sg → Ow → Prop}
theorem wg_name {x : Str} {i : Nat} {d : D} {pos} (hx : Vs X x i) (h : kn (Γ.set i (some d)) O) : WG X (.Name x pos) d Γ O kn := fun v σ L H iv hs hr q hq =>
  toG (pg_name hx.nd hx.hN hx.hl hx.hf) (hq _ _ _ _ _ h (.refl L) (hs.set iv i) hr)
theorem wgs_nil (h : kn Γ O) : WGs X [] [] Γ O kn := fun vs σ L H iv hs hr q hq => by
  cases iv
  exact toGs pgs_nil ⟨rfl, hq _ _ _ _ _ h (.refl L) hs hr⟩
theorem wgs_cons {e : Expr} {es : List Expr} {d : D} {ds : List D} (hst : (assignEach (e :: es) X.env).map (·.2) = assign e X.env :: (assignEach es X.env).map (·.2)) (h : WG X e d Γ O fun Γ1 O1 => WGs X es ds Γ1 O1 kn) : WGs X (e :: es) (d :: ds) Γ O kn := fun vs σ L H iv hs hr q hq => by
  cases iv with
  | cons i1 i2 =>
    refine toGs (pgs_cons (pgu e) (pgsu es) hst) ⟨_, _, rfl, ?_⟩
    refine h _ σ L H i1 hs hr _ fun Γ1 O1 σ1 L1 H1 h1 e1 s1 r1 => ?_
    exact h1 _ σ1 L1 H1 (i2.mono e1) s1 r1 q (hq.le e1)
theorem wg_tup {es : List Expr} {kk : Nat} {ds : List D} {pos} (hc : X.calm = true) (hn : (assignEach es X.env).length = ds.length) (hst : (assignEach es X.env).findIdx? (·.1) = none) (h : WGs X es ds Γ O kn) : WG X (.Tuple es kk pos) (.tup ds) Γ O kn := fun v σ L H iv hs hr q hq => by
  obtain ⟨a, vs, rfl, s, t⟩ := iv.tup'
  refine toG (pg_tup (n := ds.length) hc (pgsu es) hn hst) ⟨a, vs, rfl, hr.st s, t.length, ?_⟩
  exact h vs σ L H t hs hr q hq
/-! ### stores -/
variable {De : DE}
theorem ws_asg {tg e : Expr} {pos : Pos} (hsw : swapsWithSole [tg] e pos.line X.env = pure false) (hw : swappedStores [tg] e X.env = pure none) (h1 : (assignEach [tg] X.env).map (·.2) = [assign tg X.env]) (h : WE X e Γ O fun d O1 => WG X tg d Γ O1 De.nx) : WS X (.Assign [tg] e pos) Γ O De := fun σ L H hs hr E q => by
  refine toS (ps_asg (pu e) (pgu tg) hsw hw h1) ?_
  refine h σ L H hs hr _ fun v d O1 L1 H1 h1 e1 i1 r1 => ?_
  exact h1 v σ L1 H1 i1 (hs.mono e1) r1 _ (q.nx.le e1)
theorem wg_setL {o i : Expr} {d : D} {pos : Pos} (ha : ∀ v, assign (.Subscript o i pos) X.env v = (do
      let o1 ← holding [v] (eval o X.env)
      let i1 ← holding [v, o1] (eval i X.env)
      standAt pos
      holding [v, o1, i1] (setItem o1 i1 v)
      release [v, o1, i1] [])) (h : WE X o Γ O fun x O1 => WE X i Γ O1 fun y O2 => ∃ p ds n j, x = .own p ∧ y = .int n ∧ O2 p = some (.lst ds) ∧ ixN ds.length n = some j ∧ kn Γ (put O2 p (.lst (ds.set j d)))) : WG X (.Subscript o i pos) d Γ O kn := fun v σ L H iv hs hr q hq => by
  refine toG (pg_sub (pu o) (pu i) set_list ha) ?_
  refine h σ L H hs hr _ fun x dx O1 L1 H1 h1 e1 i1 r1 => ?_
  refine h1 σ L1 H1 (hs.mono e1) r1 _ fun y dy O2 L2 H2 h2 e2 i2 r2 => ?_
  obtain ⟨p, ds, n, j, rfl, rfl, ho, hj, h3⟩ := h2
  obtain ⟨xs, g1, g2⟩ := own_lst r2 ho
  refine ⟨p, xs, n, j, (i1.mono e2).own', i2.int', g1, by rw [g2.length]; exact hj, ?_⟩
  exact hq _ _ _ _ _ h3 (e1.trans e2) (hs.mono (e1.trans e2)) (r2.change ho ⟨_, upd_same, g2.set (iv.mono (e1.trans e2)) j⟩)
/-- a pair put into a dict -/
def putDk (kds : List (Key × D)) (y : Key) (d : D) : List (Key × D) := if (kds.any fun p => decide (p.1 = y)) = true then kds.map (fun p => if p.1 = y then (p.1, d) else p) else kds ++ [(y, d)]
theorem any_keys {κ : Type} [DecidableEq κ] {α β : Type} (y : κ) : ∀ {l : List (κ × α)} {m : List (κ × β)}, l.map (·.1) = m.map (·.1) → (l.any fun p => decide (p.1 = y)) = (m.any fun p => decide (p.1 = y))
  | [], [], _ => rfl
  | (a, _) :: l, (b, _) :: m, e => by
    simp only [List.map_cons,
        List.cons.injEq] at e
    obtain ⟨e1, e2⟩ := e
    subst e1
    rw [List.any_cons, List.any_cons, any_keys y e2]
  | [], _ :: _, e
        => by simp at e
  | _ :: _, [], e
        => by simp at e
theorem put_keys {K : PySem.W.Frag} {L : Lg} {v : V} {d : D} (hv : Is K L v d) (y : Key) : ∀ {l : List (Key × V)} {m : List (Key × D)}, l.map (·.1) = m.map (·.1) → IsL K L (l.map (·.2)) (m.map (·.2)) →
    (l.map fun p => if p.1 = y then (p.1, v) else p).map (·.1) = (m.map fun p => if p.1 = y then (p.1, d) else p).map (·.1) ∧ IsL K L ((l.map fun p => if p.1 = y then (p.1, v) else p).map (·.2)) ((m.map fun p => if p.1 = y then (p.1, d) else p).map (·.2))
  | [], [], _, _ => ⟨rfl, .nil⟩
  | (a, u) :: l, (b, e) :: m, h, t => by
    simp only [List.map_cons,
        List.cons.injEq] at h
    obtain ⟨h1, h2⟩ := h
    subst h1
    rw [List.map_cons, List.map_cons] at t
    cases t with
    | cons t1 t2 =>
      obtain ⟨i1, i2⟩ := put_keys hv y h2 t2
      by_cases c : a = y
      · simp only [List.map_cons, if_pos c]
        exact ⟨congrArg _ i1, .cons hv i2⟩
      · simp only [List.map_cons, if_neg c]
        exact ⟨congrArg _ i1, .cons t1 i2⟩
  | [], _ :: _, h,
        _ => by simp at h
  | _ :: _, [], h,
        _ => by simp at h
theorem putK_is {K : PySem.W.Frag} {L : Lg} {v : V} {d : D} (hv : Is K L v d) (y : Key) {l : List (Key × V)} {m : List (Key × D)} (h : l.map (·.1) = m.map (·.1)) (t : IsL K L (l.map (·.2)) (m.map (·.2))) :
    (putK l y v).map (·.1) = (putDk m y d).map (·.1) ∧ IsL K L ((putK l y v).map (·.2)) ((putDk m y d).map (·.2)) := by
  unfold putK putDk
  rw [any_keys y h]
  split
  · exact put_keys hv y h t
  · refine ⟨by rw [List.map_append, List.map_append, h]; rfl, ?_⟩
    rw [List.map_append, List.map_append]
    exact t.append (.cons hv .nil)
theorem ws_dput {o i value : Expr} {pos pos' : Pos} (hu : X.A.units + 1 < cLine) (hsw : swapsWith value (some (.Subscript o i pos')) pos.line X.env = pure false)
    (h : WE X value Γ O fun d O1 => WE X o Γ O1 fun x O2 => WE X i Γ O2 fun y O3 => ∃ p kds y', x = .own p ∧ y = kD y' ∧ O3 p = some (.dic kds) ∧ kds.length < sizeLine ∧ De.nx Γ (put O3 p (.dic (putDk kds y' d)))) : WS X (.Assign [.Subscript o i pos'] value pos) Γ O De := fun σ L H hs hr E q => by
  refine toS (ps_dput hu (pu o) (pu i) (pu value) hsw) ?_
  refine h σ L H hs hr _ fun v d O1 L1 H1 h1 e1 i1 r1 => ?_
  refine h1 σ L1 H1 (hs.mono e1) r1 _ fun x dx O2 L2 H2 h2 e2 i2 r2 => ?_
  refine h2 σ L2 H2 (hs.mono (e1.trans e2)) r2 _ fun y dy O3 L3 H3 h3 e3 i3 r3 => ?_
  obtain ⟨p, kds, y', rfl, rfl, ho, hz, h4⟩ := h3
  obtain ⟨kvs, g1, g2, g3⟩ := own_dic r3 ho
  have iv := i1.mono (e2.trans e3)
  obtain ⟨p1, p2⟩ := putK_is iv y' g2 g3
  refine ⟨p, _, (i2.mono e3).own', .inl ⟨kvs, y', g1, kD_is i3, by rw [← List.length_map (f := (·.1)), g2, List.length_map]; exact hz, rfl⟩, ?_⟩
  exact q.nx _ _ _ _ _ h4 ((e1.trans e2).trans e3) (hs.mono ((e1.trans e2).trans e3)) (r3.change ho ⟨_, upd_same, p1, p2⟩)
/-- an attribute stored -/
def putFd (f : Str) (d : D) : List (Str × D) → List (Str × D)
  | [] => [(f, d)]
  | (g, x) :: r => if g = f then (f, d) :: r else (g, x) :: putFd f d r
theorem putF_is {K : PySem.W.Frag} {L : Lg} {v : V} {d : D} (hv : Is K L v d) (f : Str) : ∀ {l : List (Str × V)} {m : List (Str × D)}, l.map (·.1) = m.map (·.1) → IsL K L (l.map (·.2)) (m.map (·.2)) → (putF f v l).map (·.1) = (putFd f d m).map (·.1) ∧ IsL K L ((putF f v l).map (·.2)) ((putFd f d m).map (·.2))
  | [], [], _, _ => ⟨rfl, .cons hv .nil⟩
  | (a, u) :: l, (b, e) :: m, h, t => by
    simp only [List.map_cons,
        List.cons.injEq] at h
    obtain ⟨h1, h2⟩ := h
    subst h1
    rw [List.map_cons, List.map_cons] at t
    cases t with
    | cons t1 t2 =>
      obtain ⟨i1, i2⟩ := putF_is hv f h2 t2
      unfold putF putFd
      by_cases c : a = f
      · rw [if_pos c, if_pos c]
        exact ⟨by rw [List.map_cons, List.map_cons, h2, ← c], .cons hv t2⟩
      · rw [if_neg c, if_neg c]
        exact ⟨congrArg (a :: ·) i1, .cons t1 i2⟩
  | [], _ :: _, h,
        _ => by simp at h
  | _ :: _, [], h,
        _ => by simp at h
theorem ws_fld {o value : Expr} {f : Str} {pos pos' : Pos} (hsw : swapsWith value (some (.Attribute o f pos')) pos.line X.env = pure false)
    (h : WE X value Γ O fun d O1 => WE X o Γ O1 fun x O2 => ∃ p C fds, x = .own p ∧ O2 p = some (.ins C fds) ∧ Cls X.K C ∧ NoAttr X.K C f ∧ fds.length < 1000 ∧ De.nx Γ (put O2 p (.ins C (putFd f d fds)))) : WS X (.Assign [.Attribute o f pos'] value pos) Γ O De := fun σ L H hs hr E q => by
  refine toS (ps_fld (pu o) (pu value) hsw) ?_
  refine h σ L H hs hr _ fun v d O1 L1 H1 h1 e1 i1 r1 => ?_
  refine h1 σ L1 H1 (hs.mono e1) r1 _ fun x dx O2 L2 H2 h2 e2 i2 r2 => ?_
  obtain ⟨p, C, fds, rfl, ho, hc, hn, hz, h4⟩ := h2
  obtain ⟨dx, fs, g1, g2, g3⟩ := own_ins r2 ho
  obtain ⟨p1, p2⟩ := putF_is (i1.mono e2) f g2 g3
  refine ⟨p, C, dx, fs, i2.own', g1, hc, hn, by rw [← List.length_map (f := (·.1)), g2, List.length_map]; exact hz, ?_⟩
  exact q.nx _ _ _ _ _ h4 (e1.trans e2) (hs.mono (e1.trans e2)) (r2.change ho ⟨dx, _, upd_same, p1, p2⟩)
/-- an owned thing, named in the i-th slot, changes no more -/
theorem wss_freeze {st : List Stmt} {i : Nat} {p : Addr} {od : OD} (ho : O p = some od) (hg : Γ[i]? = some (some (.own p))) (h : WSs X st (Γ.set i (some od.d)) (del O p) De) : WSs X st Γ O De := fun σ L H hs hr E q => by
  obtain ⟨L', le, is, r⟩ := hr.freeze ho
  obtain ⟨v, e1, e2⟩ := hs.at_ i _ hg
  obtain rfl := e2.own'
  have hs' : Sl X.K L' σ (Γ.set i (some od.d)) := by
    have z := (hs.mono le).set is i
    have e : σ.set i (some (.ref p)) = σ := by
      apply List.ext_getElem?
      intro j
      by_cases c : i = j
      · subst c
        have hl : i < σ.length := (List.getElem?_eq_some_iff.mp e1).1
        rw [List.getElem?_set_self hl, e1]
      · rw [List.getElem?_set_ne c]
    rw [e] at z
    exact z
  exact h σ L' H hs' r E (q.le le)
theorem wss_drop {st : List Stmt} (p : Addr) (h : WSs X st Γ (del O p) De) : WSs X st Γ O De := fun σ L H hs hr E q => h σ L H hs (hr.drop p) E q
/-- a value that is handed on: an owned thing may be handed on as one that stays -/
theorem fol_freeze {K : PySem.W.Frag} {L : Lg} {k : KD} {Q : VK} (q : Fol K L k Q) : Fol K L (fun d O' => k d O' ∨ ∃ p od, d = .own p ∧ O' p = some od ∧ k od.d (del O' p)) Q := fun v d O' L' H' h le i r => by
  rcases h with h | ⟨p, od, rfl, ho, h⟩
  · exact q _ _ _ _ _ h le i r
  · obtain ⟨L2, le2, is, r2⟩ := r.freeze ho
    obtain rfl := i.own'
    exact q _ _ _ _ _ h (le.trans le2) is r2
/-- .. behind an expression -/
theorem we_freeze {e : Expr} (h : WE X e Γ O fun d O' => k d O' ∨ ∃ p od, d = .own p ∧ O' p = some od ∧ k od.d (del O' p)) : WE X e Γ O k := fun σ L H hs hr Q q => h σ L H hs hr Q (fol_freeze q)
theorem we_drop {e : Expr} {p : Addr} (h : WE X e Γ (del O p) k) : WE X e Γ O k := fun σ L H hs hr Q q => h σ L H hs (hr.drop p) Q q
theorem we_dropK {e : Expr} {p : Addr} (h : WE X e Γ O fun d O' => k d (del O' p)) : WE X e Γ O k := fun σ L H hs hr Q q => h σ L H hs hr Q fun v d O' L' H' a le i r => q v d _ L' H' a le i (r.drop p)
end

/-! ### what is walked -/
/-- the walk over iter gives the data ds in turn -/
def ItD (X : Cx) (tg iter : Expr) (Γ : Sg) (O : Ow) (κ : List D → Ow → Prop) : Prop := ∃ wi, PI X tg iter wi ∧ ∀ σ L H, Sl X.K L σ Γ → R X.K L O H → ∀ RR : It → Hp → Prop,
  (∀ J (ds : List D) (G : Hp → Prop) (Y : Nat → Hp → V → Hp → Prop) O' L' H', κ ds O' → L.le L' → Walk J ds.length G Y → (∀ L2 O2 H2, L'.le L2 → R X.K L2 O2 H2 → G H2) →
    (∀ i x L2 O2 H2 H3, i < ds.length → L'.le L2 → R X.K L2 O2 H2 → Y i H2 x H3 → ∃ L3 d, L2.le L3 ∧ R X.K L3 O2 H3 ∧ ds[i]? = some d ∧ Is X.K L3 x d) → R X.K L' O' H' → RR J H') → wi σ H RR
section
variable {X : Cx} {Γ : Sg} {O : Ow} {tg : Expr} {κ : List D → Ow → Prop}
theorem it_list {e : Expr} (h : WE X e Γ O fun d O1 => ∃ ds, (d = .lst ds ∨ d = .scr ds) ∧ κ ds O1) : ItD X tg e Γ O κ := by
  refine ⟨_, pi_list (pu e), fun σ L H hs hr RR q => ?_⟩
  refine h σ L H hs hr _ fun v d O1 L1 H1 h1 e1 i1 r1 => ?_
  obtain ⟨ds, hd, h1⟩ := h1
  have hsq : ∃ a vs, v = .ref a ∧ SqL X.K L1.hp a vs ∧ IsL X.K L1 vs ds := by
    rcases hd with rfl | rfl
    · obtain ⟨a, vs, e, s, t⟩ := i1.lst'
      exact ⟨a, vs, e, .inl (.inl s), t⟩
    · exact i1.scr'
  obtain ⟨a, vs, rfl, s, t⟩ := hsq
  refine ⟨a, rfl, ⟨vs, r1.sq s⟩, ?_⟩
  refine q _ ds (fun H => SqL X.K H a vs) (YAt vs) O1 L1 H1 h1 e1 (t.length ▸ walk_list) (fun L2 O2 H2 le r => r.sq (le_sq le s)) (fun i x L2 O2 H2 H3 hi le r y => ?_) r1
  obtain ⟨rfl, y⟩ := y
  obtain ⟨d', g1, g2⟩ := t.getV y
  exact ⟨L2, d', .refl L2, r, g1, g2.mono le⟩
theorem it_tup {e : Expr} (h : WE X e Γ O fun d O1 => ∃ ds, d = .tup ds ∧ κ ds O1) : ItD X tg e Γ O κ := by
  refine ⟨_, pi_tup (pu e), fun σ L H hs hr RR q => ?_⟩
  refine h σ L H hs hr _ fun v d O1 L1 H1 h1 e1 i1 r1 => ?_
  obtain ⟨ds, rfl, h1⟩ := h1
  obtain ⟨a, vs, rfl, s, t⟩ := i1.tup'
  refine ⟨a, rfl, ⟨vs, r1.st s⟩, ?_⟩
  refine q _ ds (fun H => SqT X.K H a vs) (YAt vs) O1 L1 H1 h1 e1 (t.length ▸ walk_tup) (fun L2 O2 H2 le r => r.st (le_st le s)) (fun i x L2 O2 H2 H3 hi le r y => ?_) r1
  obtain ⟨rfl, y⟩ := y
  obtain ⟨d', g1, g2⟩ := t.getV y
  exact ⟨L2, d', .refl L2, r, g1, g2.mono le⟩
theorem it_str {e : Expr} (h : WE X e Γ O fun d O1 => ∃ z : Str, d = .str z ∧ κ (z.cps.toList.map fun c => .str ⟨#[c]⟩) O1) : ItD X tg e Γ O κ := by
  refine ⟨_, pi_str (pu e), fun σ L H hs hr RR q => ?_⟩
  refine h σ L H hs hr _ fun v d O1 L1 H1 h1 e1 i1 r1 => ?_
  obtain ⟨z, rfl, h1⟩ := h1
  refine ⟨z, i1.str', ?_⟩
  have hl : (z.cps.toList.map fun c => D.str ⟨#[c]⟩).length = z.cps.size := by simp
  refine q _ _ (fun _ => True) _ O1 L1 H1 h1 e1 (by rw [hl]; exact walk_str) (fun _ _ _ _ _ => trivial) (fun i x L2 O2 H2 H3 hi le r y => ?_) r1
  obtain ⟨rfl, c, e, rfl⟩ := y
  exact ⟨L2, .str ⟨#[c]⟩, .refl L2, r, by simp [e], .str _⟩
/-- the ints lo, lo + 1, .. -/
def rngD (lo : Int) (n : Nat) : List D := (List.range n).map fun i => .int (lo + (i : Nat))
theorem rngD_len (lo : Int) (n : Nat) : (rngD lo n).length = n := by simp [rngD]
theorem rngD_at (lo : Int) {n i : Nat} (h : i < n) : (rngD lo n)[i]? = some (.int (lo + (i : Nat))) := by simp [rngD, h]
theorem it_range1 {a : Expr} {p pos : Pos} (hg : Gl X "range") (hm : X.mg "range" = none) (hst : starEach [a] X.env = [(false, eval a X.env)]) (h : WA X [a] Γ O fun ds O1 => ∃ n : Int, ds = [.int n] ∧ -(2 ^ 62) ≤ n ∧ n < 2 ^ 62 ∧ κ (rngD 0 n.toNat) O1) : ItD X tg (.Call (.Name "range" p) [a] [] pos) Γ O κ := by
  refine ⟨_, pi_range1 hg hm (pau [a]) hst, fun σ L H hs hr RR q => ?_⟩
  refine h σ L H hs hr _ fun vs ds O1 L1 H1 h1 e1 i1 r1 => ?_
  obtain ⟨n, rfl, n1, n2, h1⟩ := h1
  obtain ⟨v, rfl, iv⟩ := i1.one'
  refine ⟨n, by rw [iv.int'], n1, n2, ?_⟩
  refine q _ _ (fun _ => True) _ O1 L1 H1 h1 e1 (by rw [rngD_len]; exact walk_range) (fun _ _ _ _ _ => trivial) (fun i x L2 O2 H2 H3 hi le r y => ?_) r1
  obtain ⟨rfl, rfl⟩ := y
  rw [rngD_len] at hi
  exact ⟨L2, _, .refl L2, r, rngD_at 0 hi, .int _⟩
theorem it_range2 {a b : Expr} {p pos : Pos} (hg : Gl X "range") (hm : X.mg "range" = none) (hst : starEach [a, b] X.env = [(false, eval a X.env), (false, eval b X.env)]) (hst2 : starEach [b] X.env = [(false, eval b X.env)])
    (h : WA X [a, b] Γ O fun ds O1 => ∃ m n : Int, ds = [.int m, .int n] ∧ (-(2 ^ 62) ≤ m ∧ m < 2 ^ 62 ∧ -(2 ^ 62) ≤ n ∧ n < 2 ^ 62) ∧ κ (rngD m (n - m).toNat) O1) : ItD X tg (.Call (.Name "range" p) [a, b] [] pos) Γ O κ := by
  refine ⟨_, pi_range2 hg hm (pau [a, b]) hst hst2, fun σ L H hs hr RR q => ?_⟩
  refine h σ L H hs hr _ fun vs ds O1 L1 H1 h1 e1 i1 r1 => ?_
  obtain ⟨m, n, rfl, n1, h1⟩ := h1
  obtain ⟨v, u, rfl, i1, i2⟩ := i1.two'
  refine ⟨m, n, by rw [i1.int', i2.int'], n1, ?_⟩
  refine q _ _ (fun _ => True) _ O1 L1 H1 h1 e1 (by rw [rngD_len]; exact walk_range) (fun _ _ _ _ _ => trivial) (fun i x L2 O2 H2 H3 hi le r y => ?_) r1
  obtain ⟨rfl, rfl⟩ := y
  rw [rngD_len] at hi
  exact ⟨L2, _, .refl L2, r, rngD_at m hi, .int _⟩
/-- pairs -/
theorem pair_new {L : Lg} {H H3 : Hp} {i : Nat} {x : V} {xs ys : Nat → Option V} {d e : D} (r : R X.K L O H) (y : YPair xs ys i H x H3) (hx : ∀ v, xs i = some v → Is X.K L v d) (hy : ∀ v, ys i = some v → Is X.K L v e) : ∃ L3, L.le L3 ∧ R X.K L3 O H3 ∧ Is X.K L3 x (.tup [d, e]) := by
  obtain ⟨T, v, u, rfl, hT, rfl, e1, e2⟩ := y
  obtain ⟨L3, le, is, r3⟩ := r.newT hT (.cons (hx v e1) (.cons (hy u e2) .nil))
  exact ⟨L3, le, r3, is⟩
def enumD (ds : List D) : List D := ds.zipIdx.map fun p => .tup [.int (p.2 : Nat), p.1]
theorem enumD_len (ds : List D) : (enumD ds).length = ds.length := by simp [enumD]
theorem enumD_at {ds : List D} {i : Nat} {d : D} (h : ds[i]? = some d) : (enumD ds)[i]? = some (.tup [.int (i : Nat), d]) := by
  simp [enumD, h]
theorem it_enum {e : Expr} {p pos tpos : Pos} {elts : List Expr} {kk : Nat} (hg : Gl X "enumerate") (hm : X.mg "enumerate" = none) (hst : starEach [e] X.env = [(false, eval e X.env)])
    (h : WA X [e] Γ O fun xs O1 => ∃ ds, (xs = [.lst ds] ∨ xs = [.scr ds]) ∧ κ (enumD ds) O1) : ItD X (.Tuple elts kk tpos) (.Call (.Name "enumerate" p) [e] [] pos) Γ O κ := by
  refine ⟨_, pi_enum hg hm (pau [e]) hst, fun σ L H hs hr RR q => ?_⟩
  refine h σ L H hs hr _ fun vs xs O1 L1 H1 h1 e1 i1 r1 => ?_
  obtain ⟨ds, hd, h1⟩ := h1
  have hsq : ∃ a us, vs = [.ref a] ∧ SqL X.K L1.hp a us ∧ IsL X.K L1 us ds := by
    rcases hd with rfl | rfl
    · obtain ⟨v, rfl, iv⟩ := i1.one'
      obtain ⟨a, us, rfl, s, t⟩ := iv.lst'
      exact ⟨a, us, rfl, .inl (.inl s), t⟩
    · obtain ⟨v, rfl, iv⟩ := i1.one'
      obtain ⟨a, us, rfl, s, t⟩ := iv.scr'
      exact ⟨a, us, rfl, s, t⟩
  obtain ⟨a, us, rfl, s, t⟩ := hsq
  refine ⟨a, us, rfl, r1.sq s, ?_⟩
  refine q _ _ (fun H => SqL X.K H a us) _ O1 L1 H1 h1 e1 (by rw [enumD_len, ← t.length]; exact walk_enum) (fun L2 O2 H2 le r => r.sq (le_sq le s)) (fun i x L2 O2 H2 H3 hi le r y => ?_) r1
  rw [enumD_len] at hi
  obtain ⟨L3, le3, r3, is⟩ := pair_new (d := .int (i : Nat)) (e := ds[i]) r y (fun v e => by cases e; exact .int _) (fun v e => by
    obtain ⟨d', g1, g2⟩ := t.getV e
    have g3 : ds[i] = d' := by
      rw [List.getElem?_eq_getElem hi] at g1; exact Option.some.inj g1
    rw [g3]; exact g2.mono le)
  exact ⟨L3, _, le3, r3, enumD_at (by rw [List.getElem?_eq_getElem hi]), is⟩
def zipD (xs ys : List D) : List D := (xs.zip ys).map fun p => .tup [p.1, p.2]
theorem zipD_len (xs ys : List D) : (zipD xs ys).length = min xs.length ys.length := by simp [zipD]
theorem zipD_at {xs ys : List D} {i : Nat} {d e : D} (h : xs[i]? = some d) (h' : ys[i]? = some e) : (zipD xs ys)[i]? = some (.tup [d, e]) := by
  unfold zipD
  rw [List.getElem?_map]
  have z : (xs.zip ys)[i]? = some (d, e) := by
    rw [List.getElem?_zip_eq_some]; exact ⟨h, h'⟩
  rw [z]; rfl
theorem it_zipL {e e2 : Expr} {p pos tpos : Pos} {elts : List Expr} {kk : Nat} (hg : Gl X "zip") (hm : X.mg "zip" = none) (hst : starEach [e, e2] X.env = (false, eval e X.env) :: starEach [e2] X.env) (hpl : (backTo pos (starEach [e2] X.env)).any (·.1) = false)
    (h : WA X [e, e2] Γ O fun xs O1 => ∃ ds es, xs = [.lst ds, .lst es] ∧ κ (zipD ds es) O1) : ItD X (.Tuple elts kk tpos) (.Call (.Name "zip" p) [e, e2] [] pos) Γ O κ := by
  refine ⟨_, pi_zip hg hm (pau [e, e2]) hst hpl, fun σ L H hs hr RR q => ?_⟩
  refine h σ L H hs hr _ fun vs xs O1 L1 H1 h1 e1 i1 r1 => ?_
  obtain ⟨ds, es, rfl, h1⟩ := h1
  obtain ⟨v, u, rfl, i1, i2⟩ := i1.two'
  obtain ⟨a, us, rfl, s, t⟩ := i1.lst'
  obtain ⟨b, ws, rfl, s', t'⟩ := i2.lst'
  refine ⟨a, b, us, ws, rfl, .inl (.inl (r1.hp _ _ s)), .inl (.inl (r1.hp _ _ s')), ?_⟩
  refine q _ _ (fun H => SqL X.K H a us ∧ SqL X.K H b ws) _ O1 L1 H1 h1 e1 (walk_zip (by rw [zipD_len, t.length, t'.length])) (fun L2 O2 H2 le r => ⟨.inl (.inl (r.hp _ _ (le.hp _ _ s))), .inl (.inl (r.hp _ _ (le.hp _ _ s')))⟩) (fun i x L2 O2 H2 H3 hi le r y => ?_) r1
  rw [zipD_len] at hi
  have h1 : i < ds.length := by omega
  have h2 : i < es.length := by omega
  obtain ⟨L3, le3, r3, is⟩ := pair_new (d := ds[i]) (e := es[i]) r y (fun v e => by
    obtain ⟨d', g1, g2⟩ := t.getV e
    have g3 : ds[i] = d' := by rw [List.getElem?_eq_getElem h1] at g1; exact Option.some.inj g1
    rw [g3]; exact g2.mono le) (fun v e => by
    obtain ⟨d', g1, g2⟩ := t'.getV e
    have g3 : es[i] = d' := by rw [List.getElem?_eq_getElem h2] at g1; exact Option.some.inj g1
    rw [g3]; exact g2.mono le)
  exact ⟨L3, _, le3, r3, zipD_at (List.getElem?_eq_getElem h1) (List.getElem?_eq_getElem h2), is⟩
theorem walk_zipT' {K : PySem.W.Frag} {a b : Addr} {xs ys : List V} {n : Nat} (hn : n = min xs.length ys.length) : Walk (ItzT K a b) n (fun H => SqT K H a xs ∧ SqT K H b ys) (YPair (fun i => xs[i]?) (fun i => ys[i]?)) := by
  subst hn
  refine ⟨fun i _ hi q => ?_, fun _ q => ⟨xs, ys,
      q.1, q.2, by omega⟩, fun i H v H' _ q y => ?_⟩
  · have c1 : i < xs.length := by omega
    have c2 : i < ys.length := by omega
    exact ⟨xs, ys, xs[i], ys[i], q.1, q.2, List.getElem?_eq_getElem c1, List.getElem?_eq_getElem c2⟩
  · obtain ⟨T, x, z, g1, g2, g3, g4, g5⟩ := y
    exact ⟨T, x, z, g1, g2, g3, g4 xs q.1, g5 ys q.2⟩
theorem it_zipT {e e2 : Expr} {p pos tpos : Pos} {elts : List Expr} {kk : Nat} (hg : Gl X "zip") (hm : X.mg "zip" = none) (hst : starEach [e, e2] X.env = (false, eval e X.env) :: starEach [e2] X.env) (hpl : (backTo pos (starEach [e2] X.env)).any (·.1) = false)
    (h : WA X [e, e2] Γ O fun xs O1 => ∃ ds es, xs = [.tup ds, .tup es] ∧ κ (zipD ds es) O1) : ItD X (.Tuple elts kk tpos) (.Call (.Name "zip" p) [e, e2] [] pos) Γ O κ := by
  refine ⟨_, pi_zipA hg hm (pau [e, e2]) hst hpl, fun σ L H hs hr RR q => ?_⟩
  refine h σ L H hs hr _ fun vs xs O1 L1 H1 h1 e1 i1 r1 => ?_
  obtain ⟨ds, es, rfl, h1⟩ := h1
  obtain ⟨v, u, rfl, i1, i2⟩ := i1.two'
  obtain ⟨a, us, rfl, s, t⟩ := i1.tup'
  obtain ⟨b, ws, rfl, s', t'⟩ := i2.tup'
  refine ⟨a, b, us, ws, rfl, .inr ⟨r1.st s, r1.st s', ?_⟩⟩
  refine q _ _ (fun H => SqT X.K H a us ∧ SqT X.K H b ws) _ O1 L1 H1 h1 e1 (walk_zipT' (by rw [zipD_len, t.length, t'.length])) (fun L2 O2 H2 le r => ⟨r.st (le_st le s), r.st (le_st le s')⟩) (fun i x L2 O2 H2 H3 hi le r y => ?_) r1
  rw [zipD_len] at hi
  have h1 : i < ds.length := by omega
  have h2 : i < es.length := by omega
  obtain ⟨L3, le3, r3, is⟩ := pair_new (d := ds[i]) (e := es[i]) r y (fun v e => by
    obtain ⟨d', g1, g2⟩ := t.getV e
    have g3 : ds[i] = d' := by rw [List.getElem?_eq_getElem h1] at g1; exact Option.some.inj g1
    rw [g3]; exact g2.mono le) (fun v e => by
    obtain ⟨d', g1, g2⟩ := t'.getV e
    have g3 : es[i] = d' := by rw [List.getElem?_eq_getElem h2] at g1; exact Option.some.inj g1
    rw [g3]; exact g2.mono le)
  exact ⟨L3, _, le3, r3, zipD_at (List.getElem?_eq_getElem h1) (List.getElem?_eq_getElem h2), is⟩

/-! ### for -/
theorem ws_for {iter : Expr} {body : List Stmt} {pos : Pos} {De : DE} (hp : PassesOwn (model X.prog X.w) X.A X.env X.xe) (hc : X.calm = true) (hfs : ∀ x, foldedSetIterable iter X.env x = pure x)
    (h : ItD X tg iter Γ O fun ds O1 => ∃ I : Nat → Sg → Ow → Prop, I 0 Γ O1 ∧
      (∀ i d Γ' O', ds[i]? = some d → I i Γ' O' → WG X tg d Γ' O' fun Γ2 O2 => WSs X body Γ2 O2 { nx := I (i + 1), rt := De.rt, bk := De.nx, ct := I (i + 1) }) ∧
      (∀ Γ' O', I ds.length Γ' O' → De.nx Γ' O')) : WS X (.For tg iter body [] pos) Γ O De := fun σ L H hs hr E q => by
  obtain ⟨wi, hpi, hit⟩ := h
  refine toS (ps_for hp hc hpi (pgu tg) (pssu body) hfs) ?_
  refine hit σ L H hs hr _ fun J ds G Y O1 L1 H1 h1 e1 w hG hY r1 => ?_
  obtain ⟨I, i0, step, fin⟩ := h1
  refine for_it w (fun i σ' H' => ∃ Γ' O' L', I i Γ' O' ∧ L1.le L' ∧ Sl X.K L' σ' Γ' ∧ R X.K L' O' H') ⟨Γ, O1, L1, i0, .refl L1, hs.mono e1, r1⟩ (fun i σ' H' hi ⟨Γ', O', L', _, le, _, r⟩ => hG L' O' H' le r) ?_ ?_
  · rintro i x σ' H2 H3 hi ⟨Γ', O', L', hI, le, hs', r'⟩ hy
    obtain ⟨L3, d, le3, r3, hd, is⟩ := hY i x L' O' H2 H3 hi le r' hy
    refine step i d Γ' O' hd hI x σ' L3 H3 is (hs'.mono le3) r3 _ fun Γ2 O2 σ2 L4 H4 h4 e4 s4 r4 => ?_
    refine h4 σ2 L4 H4 s4 r4 _ ⟨?_, ?_, ?_, ?_⟩
    · exact fun Γ5 O5 σ5 L5 H5 a5 e5 s5 r5 => ⟨Γ5, O5, L5, a5, ((le.trans le3).trans e4).trans e5, s5, r5⟩
    · exact q.rt.le ((((e1.trans le).trans le3).trans e4))
    · exact fun Γ5 O5 σ5 L5 H5 a5 e5 s5 r5 => q.nx _ _ _ _ _ a5 ((((e1.trans le).trans le3).trans e4).trans e5) s5 r5
    · exact fun Γ5 O5 σ5 L5 H5 a5 e5 s5 r5 => ⟨Γ5, O5, L5, a5, ((le.trans le3).trans e4).trans e5, s5, r5⟩
  · rintro σ' H' ⟨Γ', O', L', hI, le, hs', r'⟩
    exact q.nx _ _ _ _ _ (fin Γ' O' hI) (e1.trans le) hs' r'

/-! ### comprehensions -/
/-- the context of a comprehension's block -/
abbrev Bk (X : Cx) (scope : Scope) (s : Shared) (H : Hp) (C : Addr) (cl : List (Str × Addr)) (fp : List Addr) : Cx := X.blk s H scope (compEnvC scope cl C X.env) fp
def uBE (X : Cx) (scope : Scope) (e : Expr) : TE := fun σ H Q => ∀ s H0 C cl fp, uE (Bk X scope s H0 C cl fp) e σ H Q
def uBT (X : Cx) (scope : Scope) (e : Expr) : TT := fun σ H Q => ∀ s H0 C cl fp, uT (Bk X scope s H0 C cl fp) e σ H Q
def uBG (X : Cx) (scope : Scope) (tg : Expr) : TG := fun v σ H q => ∀ s H0 C cl fp, uG (Bk X scope s H0 C cl fp) tg v σ H q
/-- what a block's expression | test | target leads to, wherever the block stands -/
def BE (X : Cx) (scope : Scope) (e : Expr) (Γ : Sg) (O : Ow) (k : KD) : Prop := ∀ s H C cl fp, WE (Bk X scope s H C cl fp) e Γ O k
def BG (X : Cx) (scope : Scope) (tg : Expr) (d : D) (Γ : Sg) (O : Ow) (k : Sg → Ow → Prop) : Prop := ∀ s H C cl fp, WG (Bk X scope s H C cl fp) tg d Γ O k
def BTs (X : Cx) (scope : Scope) (ifs : List Expr) (Γ : Sg) (O : Ow) (k : Bool → Ow → Prop) : Prop := match ifs with
  | [] => k true O
  | [c] => ∀ s H C cl fp, WT (Bk X scope s H C cl fp) c Γ O k
  | _ => False
def wipeD (Γ : Sg) : List Nat → Sg
  | [] => Γ
  | v :: vs => (wipeD Γ vs).set v none
theorem sl_wipe {K : PySem.W.Frag} {L : Lg} {σ : L2.St} (h : Sl K L σ Γ) : ∀ vs : List Nat, Sl K L (wipe σ vs) (wipeD Γ vs)
  | [] => h
  | v :: vs => by
    have ih := sl_wipe h vs
    unfold wipe wipeD
    refine ⟨by rw [List.length_set, List.length_set]; exact ih.len, fun j e z => ?_⟩
    by_cases c : v = j
    · subst c
      rw [List.getElem?_set_self'] at z
      cases e2 : (wipeD Γ vs)[v]? with
      | none => rw [e2] at z; cases z
      | some w => rw [e2] at z; simp at z
    · rw [List.getElem?_set_ne c] at z
      obtain ⟨w, a, b⟩ := ih.at_ j e z
      exact ⟨w, by rw [List.getElem?_set_ne c]; exact a, b⟩
/-- what was owned is owned as it was -/
def Agr (O O' : Ow) : Prop := ∀ a od, O a = some od → O' a = some od
theorem bts_univ (ifs : List Expr) (hl : ifs = [] ∨ ∃ c, ifs = [c]) (scope : Scope) : ∃ tt : TT, (∀ (s : Shared) (H : Hp) (C : Addr) (cl : List (Str × Addr)) (fp : List Addr), PTs (Bk X scope s H C cl fp) ifs tt) ∧
    ∀ Γ O k, BTs X scope ifs Γ O k → ∀ σ L H, Sl X.K L σ Γ → R X.K L O H → ∀ Q, FolT X.K L k Q → tt σ H Q := by
  rcases hl with rfl | ⟨c, rfl⟩
  · exact ⟨tYes, fun _ _ _ _ _ => pts_nil, fun Γ O k h σ L H hs hr Q q => q _ _ _ _ h (.refl L) hr⟩
  · refine ⟨uBT X scope c, fun s H C cl fp => pts_one ⟨fun pins s1 σ H1 Q I h => h s H C cl fp pins s1 I⟩, fun Γ O k h σ L H hs hr Q q s H0 C cl fp => ?_⟩
    exact h s H0 C cl fp σ L H hs hr Q q
/-- targets made of names -/
inductive Tg where
  | nm (i : Nat) | tup (ts : List Tg)
mutual
def tgG (K : PySem.W.Frag) : Tg → TG
  | .nm i => gName i
  | .tup ts => gTup K ts.length (tgGs K ts)
def tgGs (K : PySem.W.Frag) : List Tg → TGs
  | [] => gNil
  | t :: ts => gCons (tgG K t) (tgGs K ts)
end
mutual
def tgD : Tg → D → Sg → Option Sg
  | .nm i, d, Γ => some (Γ.set i (some d))
  | .tup ts, .tup ds, Γ => if ds.length = ts.length then tgDs ts ds Γ else none
  | .tup _, _, _ => none
def tgDs : List Tg → List D → Sg → Option Sg
  | [], [], Γ => some Γ
  | t :: ts, d :: ds, Γ => match tgD t d Γ with
    | some Γ1 => tgDs ts ds Γ1
    | none => none
  | _, _, _ => none
end
mutual
def tgIx : Tg → List Nat
  | .nm i => [i]
  | .tup ts => tgIxs ts
def tgIxs : List Tg → List Nat
  | [] => []
  | t :: ts => tgIx t ++ tgIxs ts
end
theorem wipe_set {σ : L2.St} {i : Nat} {x : Option V} : ∀ {vs : List Nat}, i ∈ vs → wipe (σ.set i x) vs = wipe σ vs := by
  intro vs
  have key : ∀ (vs : List Nat), (i ∈ vs → wipe (σ.set i x) vs = wipe σ vs) ∧ (i ∉ vs → wipe (σ.set i x) vs = (wipe σ vs).set i x) := by
    intro vs
    induction vs with
    | nil => exact ⟨fun h => absurd h (by simp), fun _ => rfl⟩
    | cons v vs ih =>
      constructor
      · intro h
        unfold wipe
        by_cases c : i ∈ vs
        · rw [ih.1 c]
        · have e : i = v := by
            rcases List.mem_cons.mp h with h | h
            · exact h
            · exact absurd h c
          subst e
          rw [ih.2 c, List.set_set]
      · intro h
        have h1 : i ≠ v := fun e => h (by rw [e]; exact List.mem_cons_self)
        have h2 : i ∉ vs := fun e => h (List.mem_cons_of_mem _ e)
        unfold wipe
        rw [ih.2 h2, List.set_comm _ _ h1]
  exact (key vs).1
mutual
theorem tg_run {K : PySem.W.Frag} {L : Lg} {O : Ow} {H : Hp} (r : R K L O H) (vs : List Nat) : ∀ (t : Tg) {v : V} {d : D} {σ : L2.St} {Γ Γ2 : Sg}, (∀ i ∈ tgIx t, i ∈ vs) → Is K L v d → Sl K L σ Γ → tgD t d Γ = some Γ2 →
    ∀ q : L2.St → Hp → Prop, (∀ σ2, Sl K L σ2 Γ2 → wipe σ2 vs = wipe σ vs → q σ2 H) → tgG K t v σ H q
  | .nm i, v, d, σ, Γ, Γ2, hi, iv, hs, e, q, hq => by
    rw [tgD] at e
    cases e
    rw [tgG]
    exact hq _ (hs.set iv i) (wipe_set (hi i (by simp [tgIx])))
  | .tup ts, v, .tup ds, σ, Γ, Γ2, hi, iv, hs, e, q, hq => by
    rw [tgD] at e
    split at e
    · rename_i hl
      obtain ⟨a, us, rfl, s, t⟩ := iv.tup'
      rw [tgG]
      exact ⟨a, us, rfl, r.st s, by rw [t.length, hl], tgs_run r vs ts (fun i h => hi i (by rw [tgIx]; exact h)) t hs e q hq⟩
    · cases e
  | .tup ts, v, .non, σ, Γ, Γ2, hi, iv, hs, e, q, hq => by simp [tgD] at e
  | .tup ts, v, .bl _, σ, Γ, Γ2, hi, iv, hs, e, q, hq => by simp [tgD] at e
  | .tup ts, v, .int _, σ, Γ, Γ2, hi, iv, hs, e, q, hq => by simp [tgD] at e
  | .tup ts, v, .str _, σ, Γ, Γ2, hi, iv, hs, e, q, hq => by simp [tgD] at e
  | .tup ts, v, .byt _, σ, Γ, Γ2, hi, iv, hs, e, q, hq => by simp [tgD] at e
  | .tup ts, v, .ty _, σ, Γ, Γ2, hi, iv, hs, e, q, hq => by simp [tgD] at e
  | .tup ts, v, .own _, σ, Γ, Γ2, hi, iv, hs, e, q, hq => by simp [tgD] at e
  | .tup ts, v, .box, σ, Γ, Γ2, hi, iv, hs, e, q, hq => by simp [tgD] at e
  | .tup ts, v, .lst _, σ, Γ, Γ2, hi, iv, hs, e, q, hq => by simp [tgD] at e
  | .tup ts, v, .dic _, σ, Γ, Γ2, hi, iv, hs, e, q, hq => by simp [tgD] at e
  | .tup ts, v, .ins _ _, σ, Γ, Γ2, hi, iv, hs, e, q, hq => by simp [tgD] at e
  | .tup ts, v, .scr _, σ, Γ, Γ2, hi, iv, hs, e, q, hq => by simp [tgD] at e
  | .tup ts, v, .exc _ _ _, σ, Γ, Γ2, hi, iv, hs, e, q, hq => by simp [tgD] at e
  | .tup ts, v, .any, σ, Γ, Γ2, hi, iv, hs, e, q, hq => by simp [tgD] at e
theorem tgs_run {K : PySem.W.Frag} {L : Lg} {O : Ow} {H : Hp} (r : R K L O H) (vs : List Nat) : ∀ (ts : List Tg) {us : List V} {ds : List D} {σ : L2.St} {Γ Γ2 : Sg}, (∀ i ∈ tgIxs ts, i ∈ vs) → IsL K L us ds → Sl K L σ Γ → tgDs ts ds Γ = some Γ2 →
    ∀ q : L2.St → Hp → Prop, (∀ σ2, Sl K L σ2 Γ2 → wipe σ2 vs = wipe σ vs → q σ2 H) → tgGs K ts us σ H q
  | [], us, [], σ, Γ, Γ2, hi, iv, hs, e, q, hq => by
    rw [tgDs] at e
    cases e
    cases iv
    rw [tgGs]
    exact ⟨rfl, hq σ hs rfl⟩
  | t :: ts, us, d :: ds, σ, Γ, Γ2, hi, iv, hs, e, q, hq => by
    rw [tgDs] at e
    cases iv with
    | cons i1 i2 =>
      cases h1 : tgD t d Γ with
      | none => rw [h1] at e; cases e
      | some Γ1 =>
        rw [h1] at e
        rw [tgGs]
        refine ⟨_, _, rfl, ?_⟩
        refine tg_run r vs t (fun i h => hi i (by rw [tgIxs]; exact List.mem_append_left _ h)) i1 hs h1 _ fun σ1 s1 w1 => ?_
        exact tgs_run r vs ts (fun i h => hi i (by rw [tgIxs]; exact List.mem_append_right _ h)) i2 s1 e q fun σ2 s2 w2 => hq σ2 s2 (w2.trans w1)
  | [], _, _ :: _, _, _, _, _, _, _, e, _, _ => by simp [tgDs] at e
  | _ :: _, _, [], _, _, _, _, _, _, e, _, _ => by simp [tgDs] at e
end
/-- what a comprehension asks -/
def LcD (X : Cx) (elt : Expr) (ifs : List Expr) (scope : Scope) (vs : List Nat) (t : Tg) (Γ : Sg) (ds : List D) (O1 : Ow) (fin : List D → Prop) : Prop := ∃ P : Nat → List D → Prop, P 0 [] ∧
  (∀ i d acc, ds[i]? = some d → P i acc → ∀ O2, Agr O1 O2 → ∃ Γ2, tgD t d (wipeD Γ vs) = some Γ2 ∧ BTs X scope ifs Γ2 O2 fun b O3 => O3 = O2 ∧
    (if b = true then BE X scope elt Γ2 O2 fun y O4 => O4 = O2 ∧ acc.length < sizeLine ∧ P (i + 1) (acc ++ [y]) else P (i + 1) acc)) ∧ ∀ acc, P ds.length acc → fin acc
theorem lc_run {elt : Expr} {ifs : List Expr} {scope : Scope} {vs : List Nat} {t : Tg} {wi : TI} {tt : TT} (hi : ∀ i ∈ tgIx t, i ∈ vs)
    (hit : ∀ σ L H, Sl X.K L σ Γ → R X.K L O H → ∀ RR : It → Hp → Prop, (∀ J (ds : List D) (G : Hp → Prop) (Y : Nat → Hp → V → Hp → Prop) O' L' H', κ ds O' → L.le L' → Walk J ds.length G Y → (∀ L2 O2 H2, L'.le L2 → R X.K L2 O2 H2 → G H2) →
      (∀ i x L2 O2 H2 H3, i < ds.length → L'.le L2 → R X.K L2 O2 H2 → Y i H2 x H3 → ∃ L3 d, L2.le L3 ∧ R X.K L3 O2 H3 ∧ ds[i]? = some d ∧ Is X.K L3 x d) → R X.K L' O' H' → RR J H') → wi σ H RR)
    (htt : ∀ Γ O k, BTs X scope ifs Γ O k → ∀ σ L H, Sl X.K L σ Γ → R X.K L O H → ∀ Q, FolT X.K L k Q → tt σ H Q)
    {kp : List D → Addr → Ow → Prop} (hk : ∀ ds O1, κ ds O1 → LcD X elt ifs scope vs t Γ ds O1 fun acc => ∀ p, O1 p = none → kp acc p (put O1 p (.lst acc)))
    {σ : L2.St} {L : Lg} {H : Hp} (hs : Sl X.K L σ Γ) (hr : R X.K L O H) {Q : VK} (q : ∀ acc p O' L' H', kp acc p O' → O' p = some (.lst acc) → L.le L' → R X.K L' O' H' → Q (.ref p) H') : tLc wi (tgG X.K t) tt (uBE X scope elt) vs σ H Q := by
  refine hit σ L H hs hr _ fun J ds G Y O1 L1 H1 h1 e1 w hG hY r1 => fun Dl hD => ?_
  obtain ⟨P, p0, step, fin⟩ := hk ds O1 h1
  obtain ⟨f1, f2, f3⟩ := r1.free hD
  have hs1 := sl_wipe (hs.mono e1) vs
  refine lc_it w (fun i H' => ∃ acc L', P i acc ∧ L1.le L' ∧ R X.K L' (put O1 Dl (.lst acc)) H') ⟨[], L1, p0, .refl L1, r1.newLO hD .nil⟩ (fun i H' hi ⟨acc, L', _, le, r⟩ => hG L' _ H' le r) ?_ ?_
  · rintro i x H2 H3 hlt ⟨acc, L', hP, le, r'⟩ hy
    obtain ⟨L3, d, le3, r3, hd, is⟩ := hY i x L' _ H2 H3 hlt le r' hy
    have agr : Agr O1 (put O1 Dl (.lst acc)) := fun a od h => by
      rw [put_ne (fun e => by rw [e, f2] at h; cases h)]; exact h
    obtain ⟨Γ2, hT, hb⟩ := step i d acc hd hP _ agr
    refine tg_run r3 vs t hi is (hs1.mono (le.trans le3)) hT _ fun σ2 s2 hw => ⟨hw.trans ?_, ?_⟩
    · clear hw s2
      have : ∀ us : List Nat, (∀ u ∈ us, u ∈ vs) → wipe (wipe σ us) vs = wipe σ vs := fun us => by
        induction us with
        | nil => intro _; rfl
        | cons u us ih =>
          intro hu
          show wipe ((wipe σ us).set u none) vs = wipe σ vs
          rw [wipe_set (hu u List.mem_cons_self)]
          exact ih fun z hz => hu z (List.mem_cons_of_mem _ hz)
      exact this vs fun _ h => h
    · refine htt _ _ _ hb σ2 L3 H3 s2 r3 _ fun b O3 L4 H4 h4 e4 r4 => ?_
      obtain ⟨rfl, h4⟩ := h4
      cases b with
      | false =>
        refine iteF ?_
        exact ⟨acc, L4, h4, (le.trans le3).trans e4, r4⟩
      | true =>
        refine iteT ?_
        have h4' : BE X scope elt Γ2 (put O1 Dl (.lst acc)) fun y O4 => O4 = put O1 Dl (.lst acc) ∧ acc.length < sizeLine ∧ P (i + 1) (acc ++ [y]) := h4
        intro s H0 C cl fp
        refine h4' s H0 C cl fp σ2 L4 H4 (s2.mono e4) r4 _ fun v y O5 L5 H5 h5 e5 i5 r5 => ?_
        obtain ⟨rfl, hz, hP'⟩ := h5
        obtain ⟨xs, g1, g2⟩ := own_lst r5 put_same
        refine ⟨xs, g1, by rw [g2.length]; exact hz, acc ++ [y], L5, hP', ((le.trans le3).trans e4).trans e5, ?_⟩
        have z := r5.change (od' := .lst (acc ++ [y])) put_same ⟨_, upd_same, g2.append (.cons i5 .nil)⟩
        rw [put_put] at z
        exact z
  · rintro H' ⟨acc, L', hP, le, r'⟩
    exact q acc Dl _ L' H' (fin acc hP Dl f2) put_same (e1.trans le) r'
theorem we_lcO {elt iter : Expr} {ifs : List Expr} {scope : Scope} {pos : Pos} {k : KD} (own : List (Str × Nat)) (t : Tg) (hc : X.calm = true) (hN : X.N.Nodup) (ok : blkC X.N X.env.scope scope own = true) (hl : ifs = [] ∨ ∃ c, ifs = [c]) (hfs : ∀ x, foldedSetIterable iter X.env x = pure x)
    (hg : ∀ (s : Shared) (H : Hp) (C : Addr) (cl : List (Str × Addr)) (fp : List Addr), PG (Bk X scope s H C cl fp) tg (tgG X.K t)) (hi : ∀ i ∈ tgIx t, i ∈ own.map (·.2))
    (h : ItD X tg iter Γ O fun ds O1 => LcD X elt ifs scope (own.map (·.2)) t Γ ds O1 fun acc => ∀ p, O1 p = none → k (.own p) (put O1 p (.lst acc))) : WE X (.ListComp elt [⟨tg, iter, ifs, 0⟩] scope pos) Γ O k := fun σ L H hs hr Q q => by
  obtain ⟨wi, hpi, hit⟩ := h
  obtain ⟨tt, ht, htt⟩ := bts_univ (X := X) ifs hl scope
  refine toE (pe_lc hc hN hpi (blkOk_by ok) hg ht (te := uBE X scope elt) (fun s H C cl fp => ⟨fun pins s1 σ H1 Q I h => h s H C cl fp pins s1 I⟩) hfs) ?_
  exact lc_run hi hit htt (fun ds O1 h => h) hs hr fun acc p O' L' H' a ho le r => q _ _ _ _ _ a le (.own p) r
theorem we_lc {elt iter : Expr} {ifs : List Expr} {scope : Scope} {pos : Pos} {k : KD} (own : List (Str × Nat)) (t : Tg) (hc : X.calm = true) (hN : X.N.Nodup) (ok : blkC X.N X.env.scope scope own = true) (hl : ifs = [] ∨ ∃ c, ifs = [c]) (hfs : ∀ x, foldedSetIterable iter X.env x = pure x)
    (hg : ∀ (s : Shared) (H : Hp) (C : Addr) (cl : List (Str × Addr)) (fp : List Addr), PG (Bk X scope s H C cl fp) tg (tgG X.K t)) (hi : ∀ i ∈ tgIx t, i ∈ own.map (·.2))
    (h : ItD X tg iter Γ O fun ds O1 => LcD X elt ifs scope (own.map (·.2)) t Γ ds O1 fun acc => k (.lst acc) O1) : WE X (.ListComp elt [⟨tg, iter, ifs, 0⟩] scope pos) Γ O k := by
  refine we_freeze (we_lcO own t hc hN ok hl hfs hg hi ?_)
  obtain ⟨wi, hpi, hit⟩ := h
  refine ⟨wi, hpi, fun σ L H hs hr RR q => hit σ L H hs hr RR fun J ds G Y O' L' H' a => q J ds G Y O' L' H' ?_⟩
  obtain ⟨P, p0, step, fin⟩ := a
  exact ⟨P, p0, step, fun acc hp p hn => .inr ⟨p, _, rfl, put_same, by rw [del_put hn]; exact fin acc hp⟩⟩
theorem ws_setLcO {elt iter : Expr} {ifs : List Expr} {scope : Scope} {pos spos py : Pos} {y : Str} {j : Nat} {De : DE} (own : List (Str × Nat)) (t : Tg) (hc : X.calm = true) (hN : X.N.Nodup) (hy : X.N[j]? = some y) (hyl : X.env.scope.names.lookup y = some .local)
    (hsw : swapsWith (.ListComp elt [⟨tg, iter, ifs, 0⟩] scope pos) (some (.Name y py)) spos.line X.env = pure true) (ok : blkC X.N X.env.scope scope own = true) (hl : ifs = [] ∨ ∃ c, ifs = [c]) (hfs : ∀ x, foldedSetIterable iter X.env x = pure x)
    (hg : ∀ (s : Shared) (H : Hp) (C : Addr) (cl : List (Str × Addr)) (fp : List Addr), PG (Bk X scope s H C cl fp) tg (tgG X.K t)) (hi : ∀ i ∈ tgIx t, i ∈ own.map (·.2))
    (h : ItD X tg iter Γ O fun ds O1 => LcD X elt ifs scope (own.map (·.2)) t Γ ds O1 fun acc => ∀ p, O1 p = none → De.nx (Γ.set j (some (.own p))) (put O1 p (.lst acc))) : WS X (.Assign [.Name y py] (.ListComp elt [⟨tg, iter, ifs, 0⟩] scope pos) spos) Γ O De := fun σ L H hs hr E q => by
  obtain ⟨wi, hpi, hit⟩ := h
  obtain ⟨tt, ht, htt⟩ := bts_univ (X := X) ifs hl scope
  refine toS (ps_setLc (i := j) hc hN hy hyl hsw hpi (blkOk_by ok) hg ht (te := uBE X scope elt) (fun s H C cl fp => ⟨fun pins s1 σ H1 Q I h => h s H C cl fp pins s1 I⟩) hfs) ?_
  exact lc_run hi hit htt (fun ds O1 h => h) hs hr fun acc p O' L' H' a ho le r => q.nx _ _ _ _ _ a le ((hs.mono le).set (.own p) j) r
theorem ws_setLc {elt iter : Expr} {ifs : List Expr} {scope : Scope} {pos spos py : Pos} {y : Str} {j : Nat} {De : DE} (own : List (Str × Nat)) (t : Tg) (hc : X.calm = true) (hN : X.N.Nodup) (hy : X.N[j]? = some y) (hyl : X.env.scope.names.lookup y = some .local)
    (hsw : swapsWith (.ListComp elt [⟨tg, iter, ifs, 0⟩] scope pos) (some (.Name y py)) spos.line X.env = pure true) (ok : blkC X.N X.env.scope scope own = true) (hl : ifs = [] ∨ ∃ c, ifs = [c]) (hfs : ∀ x, foldedSetIterable iter X.env x = pure x)
    (hg : ∀ (s : Shared) (H : Hp) (C : Addr) (cl : List (Str × Addr)) (fp : List Addr), PG (Bk X scope s H C cl fp) tg (tgG X.K t)) (hi : ∀ i ∈ tgIx t, i ∈ own.map (·.2))
    (h : ItD X tg iter Γ O fun ds O1 => LcD X elt ifs scope (own.map (·.2)) t Γ ds O1 fun acc => De.nx (Γ.set j (some (.lst acc))) O1) : WS X (.Assign [.Name y py] (.ListComp elt [⟨tg, iter, ifs, 0⟩] scope pos) spos) Γ O De := fun σ L H hs hr E q => by
  obtain ⟨wi, hpi, hit⟩ := h
  obtain ⟨tt, ht, htt⟩ := bts_univ (X := X) ifs hl scope
  refine toS (ps_setLc (i := j) hc hN hy hyl hsw hpi (blkOk_by ok) hg ht (te := uBE X scope elt) (fun s H C cl fp => ⟨fun pins s1 σ H1 Q I h => h s H C cl fp pins s1 I⟩) hfs) ?_
  refine lc_run (kp := fun acc p O' => De.nx (Γ.set j (some (.lst acc))) (del O' p)) hi hit htt (fun ds O1 a => ?_) hs hr fun acc p O' L' H' a ho le r => ?_
  · obtain ⟨P, p0, step, fin⟩ := a
    exact ⟨P, p0, step, fun acc hp p hn => by rw [del_put hn]; exact fin acc hp⟩
  · obtain ⟨L2, le2, is, r2⟩ := r.freeze ho
    exact q.nx _ _ _ _ _ a (le.trans le2) ((hs.mono (le.trans le2)).set is j) r2
end
end DL
/-! DL, part F: a def's body over data; own methods, classes; the law's end -/
namespace DL
open L2 PySem
open PySem.Spec PyProof.Rows

/-- fewer owned things -/
def Sub (O O' : Ow) : Prop := ∀ a od, O a = some od → O' a = some od
theorem Sub.refl (O : Ow) : Sub O O := fun _ _ h => h
theorem Sub.put {O : Ow} {p : Addr} {od : OD} (h : O p = none) : Sub O (put O p od) := fun a u e => by
  rw [put_ne (fun z => by rw [z, h] at e; cases e)]; exact e
theorem Sub.trans {A B C : Ow} (h : Sub A B) (g : Sub B C) : Sub A C := fun a u e => g a u (h a u e)
theorem R.sub {K : PySem.W.Frag} {L : Lg} {O O2 : Ow} {H : Hp} (r : R K L O H) (h : Sub O2 O) : R K L O2 H :=
  ⟨r.hp, fun a k z => by
    obtain ⟨h1, h2, h3⟩ := r.bx a k z
    refine ⟨h1, ?_, h3⟩
    cases q : O2 a with
    | none => rfl
    | some u =>
      rw [h a u q] at h2
      exact (nomatch h2), fun a u e => r.ow a u (h a u e)⟩
/-- what a def hands back may be an owned thing that changes no more; what else it owned is dropped -/
inductive Ret (k : KD) : D → Ow → Prop where
  | same {d : D} {O O' : Ow} : Sub O O' → k d O → Ret k d O'
  | frz {p : Addr} {od : OD} {O O' : Ow} : O' p = some od → Sub O (del O' p) → k od.d O → Ret k (.own p) O'
theorem Ret.of {k : KD} {d : D} {O : Ow} (h : k d O) : Ret k d O := .same (.refl O) h
theorem fol_ret {K : PySem.W.Frag} {L : Lg} {k : KD} {Q : VK} (q : Fol K L k Q) : Fol K L (Ret k) Q := fun v d O' L' H' h le i r => by
  cases h with
  | same s h => exact q _ _ _ _ _ h le i (r.sub s)
  | frz ho s h =>
    obtain ⟨L2, le2, is, r2⟩ := r.freeze ho
    obtain rfl := i.own'
    exact q _ _ _ _ _ h (le.trans le2) is (r2.sub s)

section
variable {base : Heap} {mg : Str → Option Value} {K : PySem.W.Frag} {w : World} {P : Program}
/-- the context of a def's body from which nothing is raised -/
abbrev Bo (P : Program) (w : World) (K : PySem.W.Frag) (mg : Str → Option Value) (base : Heap) (N : List Str) (qual : Str) (st : Stmt) (f : Addr) (cdv : Value) (A : Around) (outer : List Env) (s : Shared) (H : Hp) (E : XK) : Cx :=
  (cxOf CX0 P w K mg base N qual (defScope st) f cdv A outer s H E).nox
theorem fn_body {x qual : Str} {st : Stmt} {f : Addr} {fd : FuncData} {N ps : List Str} {j : Nat} {S : SpD} (F : FunX K x qual st f fd) (Sc : FnScope N ps (defScope st)) (len : ∀ ds O k kx, S ds O k kx → ds.length = ps.length)
    (h : ∀ (cdv : Value) (A : Around) (outer : List Env) (s : Shared) (H : Hp) (E : XK), A.guards = some [] → Room j (A.deeper (envOfC qual (defScope st) s.heap.objs.size f cdv)) → ∀ ds O k kx, S ds O k kx →
      WSs (Bo P w K mg base N qual st f cdv A outer s H E) (defBody st) (gst N.length ds) O { nx := fun _ O' => Ret k .non O', rt := Ret k }) : FnG P w K mg base CX0 (j + 1) f fd ps (spOf K S) := by
  refine FnG.body F Sc (fun vs H Q E ⟨ds, L, O, k, kx, hi, _, hs, _⟩ => hi.length.trans (len ds O k kx hs)) fun cdv A outer s H vs Q E hg hr hsp => ?_
  obtain ⟨ds, L, O, k, kx, hi, hR, hS, hk, _⟩ := hsp
  have z := h cdv A outer s H E hg hr ds O k kx hS (start N vs) L H (sl_start hi) hR { nx := fun _ H' => Q .non H', rt := Q }
    ⟨fun Γ' O' σ' L' H' a le _ r => fol_ret hk .non .non O' L' H' a le .non r, fol_ret hk, fun _ _ _ _ _ a => a.elim, fun _ _ _ _ _ a => a.elim⟩
  exact fun pins s' I => (PSs.nox (pssu (X := (cxOf CX0 P w K mg base N qual (defScope st) f cdv A outer s H E).nox) (defBody st))).run pins s' _ _ _ I z

/-- a def that the top has left: where it stands -/
structure Df (K : PySem.W.Frag) (mg : Str → Option Value) (x : Str) (st : Stmt) (ps : List Str) : Prop where
  ex : ∃ (f : Addr) (fd : FuncData), mg x = some (.ref f) ∧ FunX K x x st f fd ∧ Binds K fd ps [] ∧ PySem.W.keepIn K (.ref f) = true
theorem df_mk {h : Heap} {x : Str} {st : Stmt} {ps : List Str} {f : Addr} {oc : Value} {od an : Option Addr} {osl : Array (Option Value)} {kV doc pm cdv ct : Value} (X : K.In h) (G : h.Ns mainGlobals mg)
    (a : PySem.W.nsIn K mainGlobals x = some (some (.ref f))) (l : K.lookup f = some ⟨oc, od, .func (PySem.W.fnOf x x (defArgs st) (defBody st) (defScope st) .none kV doc pm an cdv ct), osl⟩) (c : PySem.W.codeIn K cdv x = true) (kp : PySem.W.keepIn K (.ref f) = true)
    (b : ∀ (kV doc pm : Value) (an : Option Addr) (cdv ct : Value) (us : List Value), us.length = ps.length → bindArgs (PySem.W.fnOf x x (defArgs st) (defBody st) (defScope st) .none kV doc pm an cdv ct) ⟨us, []⟩ = pure (ps.zip us)) : Df K mg x st ps :=
  ⟨f, _, PySem.W.mg_of X G a, funx_mk l c, .all (b _ _ _ _ _ _), kp⟩
/-- .. and what it promises -/
structure Pm (P : Program) (w : World) (K : PySem.W.Frag) (mg : Str → Option Value) (base : Heap) (x : Str) (j : Nat) (S : SpD) : Prop where
  ex : ∃ (f : Addr) (fd : FuncData) (ps : List Str), FnG P w K mg base CX0 j f fd ps (spOf K S) ∧ mg x = some (.ref f) ∧ PySem.W.keepIn K (.ref f) = true ∧ Binds K fd ps []
/-- .. with defaults, when all is given -/
theorem binds_full {fd : FuncData} {ps : List Str} {T : Addr} {ot : Value} {dt : Option Addr} {its : Array Value} {n : Nat} {st : Array (Option Value)} (lT : K.lookup T = some ⟨ot, dt, .seq its n, st⟩) (h : ∀ us : List Value, us.length = ps.length → ∃ k, bindArgs fd ⟨us, []⟩ = seqItems? (.ref T) >>= k ∧ k (some its) = pure (ps.zip us)) : Binds K fd ps [] := fun s us X hl => by
  rw [List.append_nil] at hl ⊢
  obtain ⟨k, e1, e2⟩ := h us hl
  refine L2.BindsTo.of_looks fun M => ?_
  rw [e1]
  exact L2.looks_items X lT rfl (.of_pure e2)
/-- a method of the class at C, where it stands -/
structure Dm (K : PySem.W.Frag) (C : Addr) (m qual : Str) (st : Stmt) (ps : List Str) : Prop where
  ex : ∃ (f : Addr) (fd : FuncData), Meth K C m f ∧ FunX K m qual st f fd ∧ Binds K fd ps []
theorem dm_mk {C : Addr} {m qual : Str} {st : Stmt} {ps : List Str} {f : Addr} {oc : Value} {od an : Option Addr} {osl : Array (Option Value)} {kV doc pm cdv ct : Value}
    (a : PySem.W.findIn K (.ref C) m = some (some (.ref f))) (i : PySem.W.isFn K (.ref f) = true) (l : K.lookup f = some ⟨oc, od, .func (PySem.W.fnOf m qual (defArgs st) (defBody st) (defScope st) .none kV doc pm an cdv ct), osl⟩) (c : PySem.W.codeIn K cdv qual = true) (kp : PySem.W.keepIn K (.ref f) = true)
    (b : ∀ (kV doc pm : Value) (an : Option Addr) (cdv ct : Value) (us : List Value), us.length = ps.length → bindArgs (PySem.W.fnOf m qual (defArgs st) (defBody st) (defScope st) .none kV doc pm an cdv ct) ⟨us, []⟩ = pure (ps.zip us)) : Dm K C m qual st ps :=
  ⟨f, _, ⟨a, i, kp⟩, funx_mk l c, .all (b _ _ _ _ _ _)⟩
/-- the __init__ of the class at C, every parameter given -/
structure Di (K : PySem.W.Frag) (C : Addr) (qual : Str) (st : Stmt) (ps : List Str) : Prop where
  ex : ∃ (f : Addr) (fd : FuncData), Mk K C f ∧ FunX K "__init__" qual st f fd ∧ Binds K fd ps []
theorem di_mk {C : Addr} {qual : Str} {st : Stmt} {ps : List Str} {f : Addr} {oc : Value} {od an : Option Addr} {osl : Array (Option Value)} {kV doc pm cdv ct : Value}
    (m : PySem.W.makesIn K C = true) (a : PySem.W.findIn K (.ref C) "__init__" = some (some (.ref f))) (i : PySem.W.isFn K (.ref f) = true) (kc : PySem.W.keepIn K (.ref C) = true) (l : K.lookup f = some ⟨oc, od, .func (PySem.W.fnOf "__init__" qual (defArgs st) (defBody st) (defScope st) .none kV doc pm an cdv ct), osl⟩) (c : PySem.W.codeIn K cdv qual = true)
    (b : ∀ (kV doc pm : Value) (an : Option Addr) (cdv ct : Value) (us : List Value), us.length = ps.length → bindArgs (PySem.W.fnOf "__init__" qual (defArgs st) (defBody st) (defScope st) .none kV doc pm an cdv ct) ⟨us, []⟩ = pure (ps.zip us)) : Di K C qual st ps :=
  ⟨f, _, ⟨m, a, i, kc⟩, funx_mk l c, .all (b _ _ _ _ _ _)⟩
theorem di_mkD {C : Addr} {qual : Str} {st : Stmt} {ps : List Str} {f : Addr} {oc : Value} {od an : Option Addr} {osl : Array (Option Value)} {kV doc pm cdv ct : Value} {T : Addr} {ot : Value} {dt : Option Addr} {its : Array Value} {n : Nat} {stt : Array (Option Value)}
    (m : PySem.W.makesIn K C = true) (a : PySem.W.findIn K (.ref C) "__init__" = some (some (.ref f))) (i : PySem.W.isFn K (.ref f) = true) (kc : PySem.W.keepIn K (.ref C) = true) (l : K.lookup f = some ⟨oc, od, .func (PySem.W.fnOf "__init__" qual (defArgs st) (defBody st) (defScope st) (.ref T) kV doc pm an cdv ct), osl⟩) (c : PySem.W.codeIn K cdv qual = true)
    (lT : K.lookup T = some ⟨ot, dt, .seq its n, stt⟩) (z : Nat) (hz : its.size = z)
    (b : ∀ (its : Array Value) (kV doc pm : Value) (an : Option Addr) (cdv ct : Value) (us : List Value), its.size = z → us.length = ps.length → ∃ k, bindArgs (PySem.W.fnOf "__init__" qual (defArgs st) (defBody st) (defScope st) (.ref T) kV doc pm an cdv ct) ⟨us, []⟩ = seqItems? (.ref T) >>= k ∧ k (some its) = pure (ps.zip us)) : Di K C qual st ps :=
  ⟨f, _, ⟨m, a, i, kc⟩, funx_mk l c, binds_full lT fun us hl => b its _ _ _ _ _ _ us hz hl⟩
theorem Pm.of {x : Str} {st : Stmt} {N ps : List Str} {j : Nat} {S : SpD} (T : Df K mg x st ps) (Sc : FnScope N ps (defScope st)) (len : ∀ ds O k kx, S ds O k kx → ds.length = ps.length)
    (h : ∀ (f : Addr) (cdv : Value) (A : Around) (outer : List Env) (s : Shared) (H : Hp) (E : XK), A.guards = some [] → Room j (A.deeper (envOfC x (defScope st) s.heap.objs.size f cdv)) → ∀ ds O k kx, S ds O k kx →
      WSs (Bo P w K mg base N x st f cdv A outer s H E) (defBody st) (gst N.length ds) O { nx := fun _ O' => Ret k .non O', rt := Ret k }) : Pm P w K mg base x (j + 1) S := by
  obtain ⟨f, fd, hm, F, hb, kp⟩ := T.ex
  exact ⟨f, fd, ps, fn_body F Sc len (h f), hm, kp, hb⟩
theorem Pm.kn {x : Str} {j : Nat} {S : SpD} (F : Pm P w K mg base x j S) {X : Cx} (e1 : X.prog = P) (e2 : X.w = w) (e3 : X.K = K) (e4 : X.mg = mg) (e5 : X.base = base) (gl : Gl X x) (db : (x == ("__debug__" : Str)) = false) : Kn X x j S := by
  subst e1 e2 e3 e4 e5
  exact ⟨F.ex, gl, db⟩

/-- a method that keeps a promise -/
structure Pk (P : Program) (w : World) (K : PySem.W.Frag) (mg : Str → Option Value) (base : Heap) (C : Addr) (m : Str) (j : Nat) (S : SpD) : Prop where
  ex : ∃ (f : Addr) (fd : FuncData) (ps : List Str), FnG P w K mg base CX0 j f fd ps (spOf K S) ∧ Meth K C m f ∧ Binds K fd ps []
  cl : Cls K C
theorem Pk.of {C : Addr} {m qual : Str} {st : Stmt} {N ps : List Str} {j : Nat} {S : SpD} (T : Dm K C m qual st ps) (c : Cls K C) (Sc : FnScope N ps (defScope st)) (len : ∀ ds O k kx, S ds O k kx → ds.length = ps.length)
    (h : ∀ (f : Addr) (cdv : Value) (A : Around) (outer : List Env) (s : Shared) (H : Hp) (E : XK), A.guards = some [] → Room j (A.deeper (envOfC qual (defScope st) s.heap.objs.size f cdv)) → ∀ ds O k kx, S ds O k kx →
      WSs (Bo P w K mg base N qual st f cdv A outer s H E) (defBody st) (gst N.length ds) O { nx := fun _ O' => Ret k .non O', rt := Ret k }) : Pk P w K mg base C m (j + 1) S := by
  obtain ⟨f, fd, hm, F, hb⟩ := T.ex
  exact ⟨⟨f, fd, ps, fn_body F Sc len (h f), hm, hb⟩, c⟩
/-- a class whose __init__ keeps a promise -/
structure Pc (P : Program) (w : World) (K : PySem.W.Frag) (mg : Str → Option Value) (base : Heap) (x : Str) (C : Addr) (j : Nat) (S : SpD) : Prop where
  ex : ∃ (f : Addr) (fd : FuncData) (ps : List Str), FnG P w K mg base CX0 j f fd ps (spOf K S) ∧ Mk K C f ∧ Binds K fd ps []
  mg : mg x = some (.ref C)
theorem Pc.of {x : Str} {C : Addr} {qual : Str} {st : Stmt} {N ps : List Str} {j : Nat} {S : SpD} (T : Di K C qual st ps) (hx : mg x = some (.ref C)) (Sc : FnScope N ps (defScope st)) (len : ∀ ds O k kx, S ds O k kx → ds.length = ps.length)
    (h : ∀ (f : Addr) (cdv : Value) (A : Around) (outer : List Env) (s : Shared) (H : Hp) (E : XK), A.guards = some [] → Room j (A.deeper (envOfC qual (defScope st) s.heap.objs.size f cdv)) → ∀ ds O k kx, S ds O k kx →
      WSs (Bo P w K mg base N qual st f cdv A outer s H E) (defBody st) (gst N.length ds) O { nx := fun _ O' => Ret k .non O', rt := Ret k }) : Pc P w K mg base x C (j + 1) S := by
  obtain ⟨f, fd, hm, F, hb⟩ := T.ex
  exact ⟨⟨f, fd, ps, fn_body F Sc len (h f), hm, hb⟩, hx⟩

/-! ### the law's own call -/
def sLaw (n : Nat) : SpD := fun ds O k _ => ∃ ns : List Int, ds = [.scr (ns.map .int)] ∧ ns.length ≤ n ∧ ∀ O', k (.bl true) O'
theorem script_heap {a : Addr} {h : Heap} {vs : List Value} {ns : List Int} (KX : K.In h) (ha : h.get? a = some { cls := .type "list", data := .seq vs.toArray }) (rv : Vals (ns.map V.int) vs) (hl : ns.length ≤ sizeLine) :
    ∃ H : Hp, SqL K H a (ns.map V.int) ∧ HOk P w H h ∧ (∀ b u, H b = some u → b = a ∧ K.lookup b = none ∧ ∃ o xs, u = .frz o (.lst xs)) := by
  have hz : vs.length = (ns.map V.int).length := rv.length.symm
  cases q : K.lookup a with
  | some o =>
    have e := KX a o q
    rw [ha] at e
    obtain rfl := Option.some.inj e
    refine ⟨fun _ => none, .inr ⟨_, vs.toArray, _, q, rfl, rfl, rfl, ?_, by simpa using rv⟩, fun _ _ z => (nomatch z), fun _ _ z => (nomatch z)⟩
    rw [List.size_toArray, hz, List.length_map]; exact hl
  | none =>
    refine ⟨upd (fun _ => none) a (.frz { cls := .type "list", data := .seq vs.toArray } (.lst (ns.map V.int))), .inl (.inr ⟨_, upd_same⟩), fun b u z => ?_, fun b u z => ?_⟩
    · by_cases c : b = a
      · subst c
        rw [upd_same] at z
        cases z
        exact ⟨ha, by rw [List.length_map]; exact hl,
            vs, _, rv, ha⟩
      · rw [upd_ne c] at z; cases z
    · by_cases c : b = a
      · subst c
        rw [upd_same] at z
        cases z
        exact ⟨rfl, q, _, _, rfl⟩
      · rw [upd_ne c] at z; cases z
theorem lawG {mb : Str → Option Value} {n j : Nat} {fa a : Addr} {fd : FuncData} {x : Str} {s₁ : Shared} {vs : List Value} {ns : List Int}
    (KX : K.In s₁.heap) (hns : s₁.heap.Ns mainGlobals mg) (hb : s₁.heap.Ns builtinsNs mb) (hbb : ∀ x : Str,
        x ≠ "__name__" → mb x = bootBuiltins x) (hlim : s₁.heap.NoLimit) (hg : s₁.gens = #[])
    (ha : s₁.heap.get? a = some { cls := .type "list", data := .seq vs.toArray }) (hi : IntsAre vs ns) (hn : ns.length ≤ n) (hn2 : n ≤ sizeLine) (hr : Room j callerA)
    (F : ∀ base : Heap, K.In base → base.Ns mainGlobals mg → FnG P w K mg base CX0 j fa fd [x] (spOf K (sLaw n))) (hbind : ∀ (s : Shared) (u : Value), BindsTo s fd ⟨[u], []⟩ [(x, u)]) :
    codeAny (model P w) callerA (.call (.ref fa) ⟨[.ref a],
        []⟩) (fun r s' => r = .ok (.ret (.bool true)) ∧ OldK s₁.heap s'.heap ∧ s'.os = s₁.os ∧ AllBare s'.gens) s₁ := by
  obtain ⟨H, hS, hok, hO⟩ := script_heap (P := P) (w := w) KX ha (vals_ints hi) (Nat.le_trans hn hn2)
  -- the base: what isn't tracked
  have free : ∀ {b : Addr} {o : Obj}, s₁.heap.get? b = some o → (∀ u, H b ≠ some u) → (hidT s₁.heap H).get? b = some o := fun {b o} e z => hidT_get e (by
    cases q : H b with
    | none => rfl
    | some u => exact absurd q (z u))
  have ns_base : ∀ {b : Addr} {m : Str → Option Value}, s₁.heap.Ns b m → (hidT s₁.heap H).Ns b m := fun {b m} ⟨o, es, ep, e, d, r⟩ => ⟨o, es, ep, free e (fun u z => by
    obtain ⟨rfl, _⟩ := hO b u z
    rw [ha] at e
    obtain rfl := Option.some.inj e
    exact nomatch d), d, r⟩
  have K_base : K.In (hidT s₁.heap H) := fun b o e => free (KX b o e) fun u z => by
    obtain ⟨_, q, _⟩ := hO b u z
    rw [q] at e; cases e
  have md : Mod K mg (hidT s₁.heap H) := by
    refine ⟨K_base, ns_base hns, ⟨mb, ns_base hb, hbb⟩, ?_⟩
    obtain ⟨mc, l1, l2⟩ := hlim
    exact ⟨mc, ns_base l1, l2⟩
  have e0 : Env0 P w K mg (hidT s₁.heap H) callerA [] s₁ H := ⟨rfl, md, fun b o e => of_hidT e, Nat.le_of_eq (hidT_size _ _), trivial, fun b z => (nomatch z), hok, .of_eq hg⟩
  have sp : spOf K (sLaw n) [.ref a] H (fun v _ => v = .bl true) (fun _ _ _ => False) := by
    refine ⟨[.scr (ns.map .int)], ⟨H, fun _ => none⟩, fun _ => none, fun d _ => d = .bl true, fun _ _ _ => False, ?_, .start H, ⟨ns, rfl, hn, fun _ => rfl⟩, ?_, fun _ _ _ _ _ _ _ z => z.elim⟩
    · exact .cons (.scr hS (is_ints ns)) .nil
    · rintro v d O' L' H' rfl _ i _
      exact i.bl'
  refine codeAny_mono ((F _ K_base (ns_base hns)).go callerA [] s₁ H ⟨[.ref a], []⟩ [.ref a] [.ref a] _ _ rfl hr e0 (hbind s₁ (.ref a)) (.cons rfl .nil) sp) fun r s' h => ?_
  match r, h with
  | .error _, h => exact h.elim
  | .ok .next, h => exact h.elim
  | .ok .brk, h => exact h.elim
  | .ok .cont, h => exact h.elim
  | .ok (.ret u), ⟨v, H', os, bare, un, hok', rv, q⟩ =>
    have q' : v = .bl true := q
    subst q'
    obtain rfl : u = Value.bool true := rv
    refine ⟨rfl,
        OldK.of_keep fun b o e => ?_, os, bare⟩
    cases qb : H b with
    | none => exact un.keep b o e qb (by intro z; exact nomatch z) (by intro z; exact nomatch z)
    | some t =>
      obtain ⟨_, _, ob, xs, rfl⟩ := hO b t qb
      have k1 := (hok b _ qb).1
      have k2 := (hok' b _ (un.frzs b ob _ qb)).1
      rw [e] at k1
      obtain rfl := Option.some.inj k1
      exact k2
theorem walkG {l : PySem.W.OpenLaw} {n j : Nat} {q : Program} {loose : List Str} {XP : (Str → Option Value) → Heap → Prop} {YP : World → Heap → Prop} {d : DefRec} {Kf : Params → PySem.W.Frag} {x : Str}
    (hn : l.most = some n) (hn2 : n ≤ sizeLine) (hdf : d.params.defaults = []) (hr : Room j callerA) (hY : ∀ (w : World) (h : Heap), YP w h → (Kf w.params).In h)
    (F : ∀ (w : World) (mg : Str → Option Value) (fa : Addr) (h : Heap), (Kf w.params).In h → h.Ns mainGlobals mg → mg d.name = some (.ref fa) → ∃ fd : FuncData, (∀ (s : Shared) (u : Value), BindsTo s fd ⟨[u], []⟩ [(x, u)]) ∧
      ∀ base : Heap, (Kf w.params).In base → base.Ns mainGlobals mg → FnG l.prog w (Kf w.params) mg base CX0 j fa fd [x] (spOf (Kf w.params) (sLaw n))) :
    PySem.W.WalkO q loose XP YP l.row.toRowW d [] (fun
        f vs => PySem.call f vs) := by
  refine Att.attach_call hn hdf fun w s₀ s₁ mg mb fa o pm
      cd doc a vs ns G Y ho hd hcd hmg hobj hints hlen hg => ?_
  have KX := hY w _ Y
  obtain ⟨fd, hb,
      hF⟩ := F w mg fa _ KX G.T.g hmg
  exact lawG KX G.T.g G.T.b G.T.builtins G.T.nolimit hg hobj hints hlen hn2 hr hF hb
end
end DL
/-! DL, part G: repr, own methods, new things of own classes, dicts copied and updated, texts -/
namespace DL
open L2 PySem
open PySem.Spec PyProof.Rows

/-! ### repr -/
section
variable {X : Cx} {Γ : Sg} {O : Ow} {k : KD}
mutual
theorem py_noDict : ∀ {d : D}, d.isPy = true → d.py.hasDict = false
  | .non, _ => by simp [D.py, PyData.hasDict]
  | .bl _, _ => by simp [D.py, PyData.hasDict]
  | .int _, _ => by simp [D.py, PyData.hasDict]
  | .str _, _ => by simp [D.py, PyData.hasDict]
  | .lst ds, h => by rw [D.py, PyData.hasDict]; exact pys_noDict (by simpa [D.isPy] using h)
  | .tup ds, h => by rw [D.py, PyData.hasDict]; exact pys_noDict (by simpa [D.isPy] using h)
  | .scr ds, h => by rw [D.py, PyData.hasDict]; exact pys_noDict (by simpa [D.isPy] using h)
  | .byt _, h => by simp [D.isPy] at h
  | .ty _, h => by simp [D.isPy] at h
  | .own _, h => by simp [D.isPy] at h
  | .box, h => by simp [D.isPy] at h
  | .dic _, h => by simp [D.isPy] at h
  | .ins _ _, h => by simp [D.isPy] at h
theorem pys_noDict : ∀ {ds : List D}, D.arePy ds = true → PyData.hasDictAll (D.pys ds) = false
  | [], _ => by simp [D.pys, PyData.hasDictAll]
  | d :: ds, h => by
    rw [D.arePy, Bool.and_eq_true] at h
    rw [D.pys, PyData.hasDictAll, py_noDict h.1, pys_noDict h.2]
    rfl
end
theorem wc_repr {d : D} (hg : X.A.guards = some []) (hu : X.A.units + 64 < cLine) (hp : d.isPy = true) (hs : d.py.showable = true) (hd : d.py.depth ≤ 60) (hz : d.py.shown.length ≤ sizeLine) (h : k (.str d.py.shown) O) : WC X (.builtin "repr") [d] O k := fun vs L H is hr Q q => by
  obtain ⟨v, rfl, i⟩ := is.one'
  have fin : Q (.str d.py.shown) H := q _ _ _ _ _ h (.refl L) (.str _) hr
  intro pins s σ us I rx
  obtain ⟨u, rfl, r1⟩ := Vals.one rx
  obtain ⟨as, rd⟩ := Dp.reads I d.py v u (i.dp hr hp) r1
  have flat : ∀ (x : Str), d.py.shown = x → ∀ s' : Shared, Inv X pins σ H s' → ∀ t, EP X pins σ Q (.str x t) s' := fun x e s' I' t => ⟨.str x, H, I', ⟨t, rfl⟩, e ▸ fin⟩
  have deep : ∀ a, u = .ref a → wpAny (model X.prog X.w) X.A (call (.builtin "repr") [u]) (EP X pins σ Q) X.xe s := fun a e => by
    subst e
    refine repr_of_reads' rd hs (PyData.noDict_hsm (py_noDict hp)) hg (by omega) (fun _ _ z => z) (fun h' t tk kp => ?_) hz
    exact ⟨.str d.py.shown, H, I.kept (t' := tk) kp, ⟨t, rfl⟩, fin⟩
  cases i with
  | non => cases r1; exact P.repr_of_none (flat _ (by simp [D.py, PyData.shown]) _ (I.tok _) _)
  | bl b => cases r1; exact P.repr_of_bool (flat _ (by cases b <;> simp [D.py, PyData.shown]) _ (I.tok _) _)
  | int n => obtain ⟨t, rfl⟩ := r1; exact P.repr_of_int (by simpa [D.py, PyData.showable] using hs) (flat _ (by simp [D.py, PyData.shown]) _ (I.tok _) _)
  | str x => obtain ⟨t, rfl⟩ := r1; exact P.repr_of_str (flat _ (by simp [D.py, PyData.shown]) _ (I.tok _) _) (by simpa [D.py, PyData.shown] using hz)
  | lst _ _ => exact deep _ r1
  | scr _ _ => exact deep _ r1
  | tup _ _ => exact deep _ r1
  | byt => simp [D.isPy] at hp
  | ty => simp [D.isPy] at hp
  | own => simp [D.isPy] at hp
  | box _ => simp [D.isPy] at hp
  | dic _ _ _ => simp [D.isPy] at hp
  | ins _ _ _ => simp [D.isPy] at hp
  | exc _ _ _ => simp [D.isPy] at hp
  | any => simp [D.isPy] at hp
  | deal => simp [D.isPy] at hp
  | nums => simp [D.isPy] at hp

/-! ### own methods, new things of own classes -/
/-- a method of the class at C that is known -/
structure Km (X : Cx) (C : Addr) (m : Str) (j : Nat) (S : SpD) : Prop where
  ex : ∃ (f : Addr) (fd : FuncData) (ps : List Str), FnG X.prog X.w X.K X.mg X.base CX0 j f fd ps (spOf X.K S) ∧ Meth X.K C m f ∧ Binds X.K fd ps []
  cl : Cls X.K C
theorem Pk.km {P : Program} {w : World} {K : PySem.W.Frag} {mg : Str → Option Value} {base : Heap} {C : Addr} {m : Str} {j : Nat} {S : SpD} (F : Pk P w K mg base C m j S) {X : Cx} (e1 : X.prog = P) (e2 : X.w = w) (e3 : X.K = K) (e4 : X.mg = mg) (e5 : X.base = base) : Km X C m j S := by
  subst e1 e2 e3 e4 e5
  exact ⟨F.ex, F.cl⟩
theorem run_g {pins : List (Addr × Obj)} {σ : L2.St} {H : Hp} {s : Shared} {Q : VK} {us : List Value} {vs : List V} {j : Nat} {f : Addr} {fd : FuncData} {ps : List Str} {sp : Sp} (G : FnG X.prog X.w X.K X.mg X.base CX0 j f fd ps sp) (hgd : X.A.guards = some []) (hr : Room j X.A) (hb : Binds X.K fd ps [])
    (I : Inv X pins σ H s) (r : Vals vs us) (h : sp vs H Q E0) : wpAny (model X.prog X.w) X.A (call (.ref f) us) (EP X pins σ Q) X.xe s := by
  have hl : (us ++ []).length = ps.length := by rw [List.append_nil, ← r.length]; exact G.ln _ _ _ _ h
  refine wpAny_call (codeAny_mono (G.go X.A X.stack s H ⟨us, []⟩ (us ++ []) vs Q E0 hgd hr I.env0 (hb s us I.kIn hl) (by rw [List.append_nil]; exact r) h) fun r s' hq => ?_)
  match r, hq with
  | .ok (.ret u), hq => exact I.after hq
  | .ok .next, hq => exact hq.elim
  | .ok .brk, hq => exact hq.elim
  | .ok .cont, hq => exact hq.elim
  | .error e, hq => exact hq.elim
theorem sp_of {K : PySem.W.Frag} {S : SpD} {vs : List V} {ds : List D} {L : Lg} {H : Hp} {Q : VK} (h : S ds O k fun _ _ _ => False) (i : IsL K L vs ds) (r : R K L O H) (q : Fol K L k Q) : spOf K S vs H Q E0 :=
  ⟨ds, L, O, k, fun _ _ _ => False, i, r, h, q, fun _ _ _ _ _ _ _ z => z.elim⟩
theorem we_meth {C : Addr} {m : Str} {j : Nat} {S : SpD} {o e : Expr} {es : List Expr} {apos pos : Pos} {pl : Sem Bool} (F : Km X C m j S) (hgd : X.A.guards = some []) (hr : Room j X.A)
    (hst : starEach (e :: es) X.env = (false, eval e X.env) :: starEach es X.env) (hpl : (backTo pos (starEach es X.env)).any (·.1) = false)
    (ht : eval (.Call (.Attribute o m
        apos) (e :: es) [] pos) X.env = (do
      let obj ← eval o X.env
      standAt apos.atName
      let (fn, head) ← holding [obj] (getMethod obj m pl)
      callWith pos fn head (backTo pos (starEach (e :: es) X.env)) (backToKw pos (keywordEach [] X.env))))
    (h : WE X o Γ O fun x O1 => ∃ fds, InD O1 x C fds ∧ fds.lookup m = none ∧ WA X (e :: es) Γ O1 fun ds O2 => S (x :: ds) O2 k fun _ _ _ => False) : WE X (.Call (.Attribute o m apos) (e :: es) [] pos) Γ O k := fun σ L H hs hR Q q pins s I => by
  obtain ⟨f, fd, ps, G, hm, hb⟩ := F.ex
  refine PySem.W.methodCall_KW (pl := pl) (thn (h σ L H hs hR (fun v H1 => ∃ x O1 L1, (∃ fds, InD O1 x C fds ∧ fds.lookup m = none ∧ WA X (e :: es) Γ O1 fun ds O2 => S (x :: ds) O2 k fun _ _ _ => False) ∧ L.le L1 ∧ Is X.K L1 v x ∧ R X.K L1 O1 H1) (fun v x O1 L1 H1 a b c d => ⟨x, O1, L1, a, b, c, d⟩) pins s I)
    fun u s1 ⟨v, H1, I1, rv, x, O1, L1, ⟨fds, hi, hl, h2⟩, le1, is1, r1⟩ => ?_) ht
  obtain ⟨a, dx, fs, rfl, g1, g2, g3⟩ := inD_of r1 hi is1
  obtain rfl : u = Value.ref a := rv
  refine getmeth_ok I1 g1 F.cl hm ((lookup_is g2 g3).2 hl) ?_
  refine PySem.W.callWith_K (first := [.ref a]) (h₀ := X.base) I1.ok.mod.kin hm.kp (thn (h2 σ L1 H1 (hs.mono le1) r1 (fun vs H2 => ∃ ds O2 L2, (S (x :: ds) O2 k fun _ _ _ => False) ∧ L1.le L2 ∧ IsL X.K L2 vs ds ∧ R X.K L2 O2 H2) (fun vs ds O2 L2 H2 a b c d => ⟨ds, O2, L2, a, b, c, d⟩) pos pins s1 I1)
    fun us s2 ⟨vs, H2, I2, rvs, ds, O2, L2, h3, le2, is2, r2⟩ => ⟨I2.kIn, ?_⟩) hst hpl
  exact run_g (us := .ref a :: us) (vs := .ref a :: vs) G hgd hr hb I2 (.cons rfl rvs) (sp_of h3 (.cons (is1.mono le2) is2) r2 (q.le (le1.trans le2)))
theorem we_meth0 {C : Addr} {m : Str} {j : Nat} {S : SpD} {o : Expr} {apos pos : Pos} {pl : Sem Bool} (F : Km X C m j S) (hgd : X.A.guards = some []) (hr : Room j X.A)
    (ht : eval (.Call (.Attribute o
        m apos) [] [] pos) X.env = (do
      let obj ← eval o X.env
      standAt apos.atName
      let (fn, head) ← holding [obj] (getMethod obj m pl)
      callWith pos fn head (backTo pos (starEach [] X.env)) (backToKw pos (keywordEach [] X.env))))
    (h : WE X o Γ O fun x O1 => ∃ fds, InD O1 x C fds ∧ fds.lookup m = none ∧ S [x] O1 k fun _ _ _ => False) : WE X (.Call (.Attribute o m apos) [] [] pos) Γ O k := fun σ L H hs hR Q q pins s I => by
  obtain ⟨f, fd, ps, G, hm, hb⟩ := F.ex
  refine PySem.W.methodCall_KW (pl := pl) (thn (h σ L H hs hR (fun v H1 => ∃ x O1 L1, (∃ fds, InD O1 x C fds ∧ fds.lookup m = none ∧ S [x] O1 k fun _ _ _ => False) ∧ L.le L1 ∧ Is X.K L1 v x ∧ R X.K L1 O1 H1) (fun v x O1 L1 H1 a b c d => ⟨x, O1, L1, a, b, c, d⟩) pins s I)
    fun u s1 ⟨v, H1, I1, rv, x, O1, L1, ⟨fds, hi, hl, h2⟩, le1, is1, r1⟩ => ?_) ht
  obtain ⟨a, dx, fs, rfl, g1, g2, g3⟩ := inD_of r1 hi is1
  obtain rfl : u = Value.ref a := rv
  refine getmeth_ok I1 g1 F.cl hm ((lookup_is g2 g3).2 hl) ?_
  exact PySem.W.callWith_K0 (first := [.ref a]) I1.kIn hm.kp (run_g (us := [.ref a]) (vs := [.ref a]) G hgd hr hb I1 (.cons rfl .nil) (sp_of h2 (.cons is1 .nil) r1 (q.le le1)))
/-- a thing beside what is known -/
theorem R.aside {K : PySem.W.Frag} {L : Lg} {H : Hp} {p : Addr} {o : HO} (r : R K L O H) (h : H p = none) : R K L O (upd H p o) := by
  obtain ⟨f1, f2, f3⟩ := r.free h
  refine ⟨fun a u e => ?_, fun a k z => ?_, fun a u e => ?_⟩
  · rw [upd_ne (ne_of_none e f1)]; exact r.hp _ _ e
  · obtain ⟨h1, h2, h3⟩ := r.bx a k z
    have c : a ≠ p := fun q => by rw [q, f3] at z; cases z
    exact ⟨h1, h2, by rw [upd_ne c]; exact h3⟩
  · obtain ⟨h1, h2⟩ := r.ow a u e
    exact ⟨h1, h2.mono (.refl L) (upd_ne (fun q => by rw [q, f2] at e; cases e))⟩
/-- the class at C and its __init__, known -/
structure Kc (X : Cx) (x : Str) (C : Addr) (j : Nat) (S : SpD) : Prop where
  ex : ∃ (f : Addr) (fd : FuncData) (ps : List Str), FnG X.prog X.w X.K X.mg X.base CX0 j f fd ps (spOf X.K S) ∧ Mk X.K C f ∧ Binds X.K fd ps []
  mg : X.mg x = some (.ref C)
  gl : Gl X x
  db : (x == ("__debug__" : Str)) = false
theorem Pc.kc {P : Program} {w : World} {K : PySem.W.Frag} {mg : Str → Option Value} {base : Heap} {x : Str} {C : Addr} {j : Nat} {S : SpD} (F : Pc P w K mg base x C j S) {X : Cx} (e1 : X.prog = P) (e2 : X.w = w) (e3 : X.K = K) (e4 : X.mg = mg) (e5 : X.base = base) (gl : Gl X x) (db : (x == ("__debug__" : Str)) = false) : Kc X x C j S := by
  subst e1 e2 e3 e4 e5
  exact ⟨F.ex, F.mg, gl, db⟩
theorem make_guards {A : Around} {C : Addr} {us : List Value} (h : A.guards = some []) : (A.under (.builtin "type.__call__" ⟨.ref C :: us, []⟩)).guards = some [] := by
  show pushGuards (Code.guards (.builtin "type.__call__" ⟨.ref C :: us, []⟩)) A.guards = some []
  rw [h]
  first | rfl | (simp [pushGuards, Code.guards, Code.isGuard, guardIds])
theorem we_makeO {x : Str} {C : Addr} {j : Nat} {S : SpD} {e : Expr} {es : List Expr} {p pos : Pos} (F : Kc X x C j S) (hgd : X.A.guards = some []) (hr : Room (j + 1) X.A) (he : starEach (e :: es) X.env = (false, eval e X.env) :: starEach es X.env) (hpl : (backTo pos (starEach es X.env)).any (·.1) = false)
    (h : WA X (e :: es) Γ O fun ds O1 => ∀ p, O1 p = none → S (.own p :: ds) (put O1 p (.ins C [])) (fun d O2 => d = .non ∧ k (.own p) O2) fun _ _ _ => False) : WE X (.Call (.Name x p) (e :: es) [] pos) Γ O k := fun σ L H hs hR Q q pins s I => by
  obtain ⟨f, fd, ps, G, M, hb⟩ := F.ex
  refine wpAny_Call_Name_kw (ld_glob I F.gl F.mg ?_ F.db)
  refine PySem.W.callWith_K (h₀ := X.base) I.ok.mod.kin M.kp (thn (h σ L H hs hR (fun vs H1 => ∃ ds O1 L1, (∀ p, O1 p = none → S (.own p :: ds) (put O1 p (.ins C [])) (fun d O2 => d = .non ∧ k (.own p) O2) fun _ _ _ => False) ∧ L.le L1 ∧ IsL X.K L1 vs ds ∧ R X.K L1 O1 H1) (fun vs ds O1 L1 H1 a b c d => ⟨ds, O1, L1, a, b, c, d⟩) pos pins s I)
    fun us s1 ⟨vs, H1, I1, rv, ds, O1, L1, h1, le1, is1, r1⟩ => ⟨I1.kIn, ?_⟩) he hpl
  have n1 : H1 (s1.heap.objs.size + 1) = none := I1.hok.fresh (Nat.le_succ _)
  have n2 : H1 s1.heap.objs.size = none := I1.hok.fresh (Nat.le_refl _)
  have ne : s1.heap.objs.size + 1 ≠ s1.heap.objs.size := Nat.succ_ne_self _
  have I2 := Inv.made (C := C) I1
  have ra := r1.aside (o := .own (s1.heap.objs.size + 1)) n2
  have n3 : upd H1 s1.heap.objs.size (.own (s1.heap.objs.size + 1)) (s1.heap.objs.size + 1) = none := by rw [upd_ne ne]; exact n1
  have rb := ra.newOwn (p := s1.heap.objs.size + 1) (o := .ins C s1.heap.objs.size []) (od := .ins C []) n3 ⟨_, [], upd_same, rfl, .nil⟩
  have sp := sp_of (K := X.K) (L := L1) (Q := fun v H2 => v = .non ∧ Q (.ref (s1.heap.objs.size + 1)) H2) (h1 _ (ra.free n3).2.1) (.cons (.own (s1.heap.objs.size + 1)) is1) rb fun v d O2 L2 H2 ⟨hd, hk⟩ le2 i2 r2 => by
    subst hd
    exact ⟨i2.non', q _ _ _ _ _ hk (le1.trans le2) (.own _) r2⟩
  have r2 : Vals (V.ref (s1.heap.objs.size + 1) :: vs) (Value.ref (s1.heap.objs.size + 1) :: us) := .cons rfl rv
  have hl : (Value.ref (s1.heap.objs.size + 1) :: us ++ []).length = ps.length := by
    rw [List.append_nil, ← r2.length]; exact G.ln _ _ _ _ sp
  refine wpAny_call (make_map (f := f) I1.kIn M.makes M.init (beq_iff_eq.mp M.fn) (codeAny_mono (G.go _ X.stack _ _ ⟨Value.ref (s1.heap.objs.size + 1) :: us, []⟩ (Value.ref (s1.heap.objs.size + 1) :: us ++ []) _ _ E0 (make_guards hgd) (hr.make C us []) (I2.env0.make C us []) (hb _ _ I2.kIn hl) (by rw [List.append_nil]; exact r2) sp) fun r s' hq => ?_))
  match r, hq with
  | .ok (.ret u), hq =>
    obtain ⟨v, H', I3, rv', ev, q3⟩ := I2.after hq
    subst ev
    exact ⟨rv', ⟨V.ref (s1.heap.objs.size + 1), H', I3, rfl, q3⟩⟩
  | .ok .next, hq => exact hq.elim
  | .ok .brk, hq => exact hq.elim
  | .ok .cont, hq => exact hq.elim
  | .error e, hq => exact hq.elim
/-- an owned thing handed on as one that stays -/
def Fz (k : KD) (d : D) (O : Ow) : Prop := ∃ p od, d = .own p ∧ O p = some od ∧ k od.d (del O p)
theorem we_fz {e : Expr} (h : WE X e Γ O (Fz k)) : WE X e Γ O k := we_freeze (h.imp fun _ _ z => .inr z)
theorem fz_put {p : Addr} {od : OD} (hn : O p = none) (h : k od.d O) : Fz k (.own p) (put O p od) := ⟨p, od, rfl, put_same, by rw [del_put hn]; exact h⟩
/-- .. one that changes no more -/
theorem we_make {x : Str} {C : Addr} {j : Nat} {S : SpD} {e : Expr} {es : List Expr} {p pos : Pos} (F : Kc X x C j S) (hgd : X.A.guards = some []) (hr : Room (j + 1) X.A) (he : starEach (e :: es) X.env = (false, eval e X.env) :: starEach es X.env) (hpl : (backTo pos (starEach es X.env)).any (·.1) = false)
    (h : WA X (e :: es) Γ O fun ds O1 => ∀ p, O1 p = none → S (.own p :: ds) (put O1 p (.ins C [])) (fun d O2 => d = .non ∧ Fz k (.own p) O2) fun _ _ _ => False) : WE X (.Call (.Name x p) (e :: es) [] pos) Γ O k := we_fz (we_makeO F hgd hr he hpl h)

/-! ### dicts -/
theorem wc_dictO {d : D} {kds : List (Key × D)} (hd : DcD O d kds) (h : ∀ p, O p = none → k (.own p) (put O p (.dic kds))) : WC X (.type "dict") [d] O k := fun vs L H is hr Q q => by
  obtain ⟨v, rfl, a⟩ := is.one'
  obtain ⟨p, kvs, rfl, s1, s2, s3⟩ := dcD_of hr hd a
  refine toC call_dictD ⟨p, kvs, rfl, .inl s1, fun l hl => ?_⟩
  exact q _ _ _ _ _ (h l (hr.free hl).2.1) (.refl L) (.own l) (hr.newOwn hl ⟨kvs, upd_same, s2, s3⟩)
/-- d.update(e), two dicts of which the first one is owned -/
def mergeDk (kds more : List (Key × D)) : List (Key × D) := more.foldl (fun acc p => putDk acc p.1 p.2) kds
theorem merge_is {K : PySem.W.Frag} {L : Lg} : ∀ {more : List (Key × V)} {mored : List (Key × D)}, more.map (·.1) = mored.map (·.1) → IsL K L (more.map (·.2)) (mored.map (·.2)) → ∀ {l : List (Key × V)} {m : List (Key × D)}, l.map (·.1) = m.map (·.1) → IsL K L (l.map (·.2)) (m.map (·.2)) →
    (mergeK l more).map (·.1) = (mergeDk m mored).map (·.1) ∧ IsL K L ((mergeK l more).map (·.2)) ((mergeDk m mored).map (·.2))
  | [], [], _, _, _, _, h, t => ⟨h, t⟩
  | (y, v) :: more, (z, d) :: mored, e, i, l, m, h, t => by
    simp only [List.map_cons,
        List.cons.injEq] at e
    obtain ⟨e1, e2⟩ := e
    subst e1
    rw [List.map_cons, List.map_cons] at i
    cases i with
    | cons i1 i2 =>
      obtain ⟨p1, p2⟩ := putK_is i1 y h t
      exact merge_is e2 i2 p1 p2
  | [], _ :: _, e, _, _, _, _, _ => by simp at e
  | _ :: _, [], e, _, _, _, _, _ => by simp at e
theorem kv_merge {vs ws : List (Key × Value)} {more kvs : List (Key × V)} (r : KV more ws) : KV kvs vs → KV (mergeK kvs more) (merged vs ws) := by
  intro r0
  unfold mergeK merged
  unfold KV at r
  induction r generalizing
      kvs vs with
  | nil => exact r0
  | @cons p q ps qs h t ih =>
    obtain ⟨e, rv⟩ := h
    rw [List.foldl_cons, List.foldl_cons, ← e]
    exact ih (r0.put p.1 rv)
def rUpdD : V → List V → Hp → VK → Prop := fun x xs H Q => ∃ a b kvs more, x = .ref a ∧ xs = [.ref b] ∧ a ≠ b ∧ H a = some (.dK kvs) ∧ H b = some (.dK more) ∧ kvs.length + more.length ≤ sizeLine ∧ Q .non (upd H a (.dK (mergeK kvs more)))
theorem mergeK_len : ∀ (more kvs : List (Key × V)), (mergeK kvs more).length ≤ kvs.length + more.length
  | [], kvs => Nat.le_refl _
  | p :: more, kvs => by
    have h := mergeK_len more (putK kvs p.1 p.2)
    have h2 := length_putK
        kvs p.1 p.2
    show (mergeK (putK kvs p.1 p.2) more).length ≤ _
    rw [List.length_cons]
    omega
theorem mt_updD : MtR X "dict.update" rUpdD := by
  intro pins s σ H x
      xs v us Q I rx rxs h
  obtain ⟨a, b, kvs, more, rfl, rfl, hab, ha, hb, hz, q⟩ := h
  obtain rfl : v =
      Value.ref a := rx
  obtain ⟨u, rfl, r1⟩ := Vals.one rxs
  obtain rfl : u = Value.ref b := r1
  obtain ⟨_, na, vs, ra, da⟩ := dk_of I.hok ha
  obtain ⟨_, nb, ws, rb, db⟩ := dk_of I.hok hb
  refine call_meetsIn PySem.F.slot_dict_update da.typeIs PySem.F.entry_dict_update (PySem.F.args_dict_update_2 _ _) (meets_dict_update (mixKind X.prog X.w) a b hab nb) ⟨vs, ws, da, db, by rw [← Paired.length ra, ← Paired.length rb]; exact hz, fun h' d1 d2 sb => ?_⟩
  have there : ∃ o, h'.get? a = some o := by
    obtain ⟨o, es, ep, e, _⟩ := d1
    exact ⟨o, e⟩
  exact ⟨.non, _, d_write (t' := s.toks) I (by rw [ha]; exact True.intro) sb there (dk_new (Nat.le_trans (mergeK_len more kvs) hz) na (kv_merge rb ra) d1), rfl, q⟩
theorem wm_update {p : Addr} {e : D} {kds more : List (Key × D)} (ho : O p = some (.dic kds)) (hd : e = .dic more) (hz : kds.length + more.length ≤ sizeLine) (h : k .non (put O p (.dic (mergeDk kds more)))) : WM X "dict.update" (.own p) [e] O k := fun vx vs L H ix is hr Q q => by
  subst hd
  obtain ⟨v, rfl, i1⟩ := is.one'
  obtain ⟨b, ws, rfl, s1, s2, s3⟩ := i1.dic'
  obtain ⟨kvs, g1, g2, g3⟩ := own_dic hr ho
  obtain rfl := ix.own'
  have nb : p ≠ b := fun z => by
    have := (hr.ow _ _ ho).1
    rw [z, s1] at this; cases this
  have l1 : kvs.length = kds.length := by rw [← List.length_map (f := (·.1)), g2, List.length_map]
  have l2 : ws.length = more.length := by rw [← List.length_map (f := (·.1)), s2, List.length_map]
  obtain ⟨p1, p2⟩ := merge_is s2 s3 g2 g3
  refine toM mt_updD ⟨p, b, kvs, ws, rfl, rfl, nb, g1, hr.hp _ _ s1, by rw [l1, l2]; exact hz, ?_⟩
  exact q _ _ _ _ _ h (.refl L) .non (hr.change ho ⟨_, upd_same, p1, p2⟩)
/-- {k: v, ..} written, keys and values from the left; a dict that stays -/
def WPs (X : Cx) : List (Option Expr) → List Expr → Sg → Ow → (List (D × D) → Ow → Prop) → Prop
  | [], [], _, O, kp => kp [] O
  | some a :: ks, b :: vs, Γ, O, kp => WE X a Γ O fun x O1 => WE X b Γ O1 fun y O2 => WPs X ks vs Γ O2 fun r O3 => kp ((x, y) :: r) O3
  | _, _, _, _, _ => False
theorem pps_univ : ∀ (ks : List (Option Expr)) (vs : List Expr) (pos : Pos), ks.all (·.isSome) = true → ks.length = vs.length → ∃ trs, PPs X pos ks vs trs ∧ ∀ Γ O kp, WPs X ks vs Γ O kp → ∀ σ L H, Sl X.K L σ Γ → R X.K L O H → ∀ Q : List (V × V) → Hp → Prop,
    (∀ ps pd O' L' H', kp pd O' → L.le L' → IsL X.K L' (ps.map (·.1)) (pd.map (·.1)) → IsL X.K L' (ps.map (·.2)) (pd.map (·.2)) → R X.K L' O' H' → Q ps H') → tPairs trs σ H Q
  | [], [], pos, _, _ => ⟨[], pps_nil, fun Γ O kp h σ L H hs hr Q q => q [] [] _ _ _ h (.refl L) .nil .nil hr⟩
  | some a :: ks, b :: vs, pos, h1, h2 => by
    obtain ⟨trs, hp, hq⟩ := pps_univ ks vs pos (by simpa using h1) (by simpa using h2)
    refine ⟨(uE X a, uE X b) :: trs, pps_cons (pu a) (pu b) hp, fun Γ O kp h σ L H hs hr Q q => ?_⟩
    have h' : WE X a Γ O fun x O1 => WE X b Γ O1 fun y O2 => WPs X ks vs Γ O2 fun r O3 => kp ((x, y) :: r) O3 := h
    show uE X a σ H fun x H1 => uE X b σ H1 fun y H2 => tPairs trs σ H2 fun ps H3 => Q ((x, y) :: ps) H3
    refine h' σ L H hs hr _ fun x dx O1 L1 H1 h1 e1 i1 r1 => ?_
    refine h1 σ L1 H1 (hs.mono e1) r1 _ fun y dy O2 L2 H2 h2 e2 i2 r2 => ?_
    refine hq _ _ _ h2 σ L2 H2 ((hs.mono e1).mono e2) r2 _ fun ps pd O3 L3 H3 h3 e3 i3 j3 r3 => ?_
    exact q _ _ _ _ _ h3 ((e1.trans e2).trans e3) (.cons (i1.mono (e2.trans e3)) i3) (.cons (i2.mono e3) j3) r3
  | none :: _, _, _, h, _ => by simp at h
  | some _ :: _, [], _, _, h => by simp at h
  | [], _ :: _, _, _, h => by simp at h
theorem keys_kV {K : PySem.W.Frag} {L : Lg} : ∀ {ps : List (V × V)} {kds : List (Key × D)}, IsL K L (ps.map (·.1)) (kds.map fun kv => kD kv.1) → IsL K L (ps.map (·.2)) (kds.map (·.2)) → ∃ kvs : List (Key × V), ps = kvs.map (fun kv => (kV kv.1, kv.2)) ∧ kvs.map (·.1) = kds.map (·.1) ∧ IsL K L (kvs.map (·.2)) (kds.map (·.2))
  | [], [], _, _ => ⟨[], rfl, rfl, .nil⟩
  | (a, b) :: ps, (y, d) :: kds, h, t => by
    rw [List.map_cons, List.map_cons] at h t
    cases h with
    | cons h1 h2 => cases t with
      | cons t1 t2 =>
        obtain ⟨kvs, e1, e2, e3⟩ := keys_kV h2 t2
        have z : a = kV y := kD_is h1
        refine ⟨(y, b) :: kvs, ?_, ?_, .cons t1 e3⟩
        · rw [e1, z]; rfl
        · rw [List.map_cons, List.map_cons, e2]
  | [], _ :: _, h, _ => by rw [List.map_cons] at h; cases h
  | _ :: _, [], h, _ => by rw [List.map_cons] at h; cases h
theorem we_dispO {keys : List (Option Expr)} {values : List Expr} {pos : Pos} (hall : keys.all (·.isSome) = true) (hl : keys.length = values.length) (h0 : keys ≠ []) (h15 : keys.length ≤ 15)
    (h : ∀ p, O p = none → WPs X keys values Γ (put O p (.dic [])) fun pd O2 => ∃ kds : List (Key × D), pd = kds.map (fun kv => (kD kv.1, kv.2)) ∧ kds.length ≤ 15 ∧ O2 p = some (.dic []) ∧ k (.own p) (put O2 p (.dic (mergeDk [] kds)))) : WE X (.Dict keys values pos) Γ O k := fun σ L H hs hr Q q => by
  obtain ⟨trs, hp, hq⟩ := pps_univ (X := X) keys values pos hall hl
  refine toE (pe_disp hp hall hl h0 h15) ?_
  intro p hpn
  have hpo := (hr.free hpn).2.1
  refine hq _ _ _ (h p hpo) σ L _ hs (hr.newOwn (o := .dK []) (od := .dic []) hpn ⟨[], upd_same, rfl, .nil⟩) _ fun ps pd O2 L2 H2 h2 e2 i2 j2 r2 => ?_
  obtain ⟨kds, rfl, hz, ho, h3⟩ := h2
  rw [List.map_map] at i2 j2
  obtain ⟨kvs, rfl, k1, k2⟩ := keys_kV i2 j2
  obtain ⟨kv0, g1, g2, g3⟩ := own_dic r2 ho
  have e0 : kv0 = [] := by
    cases kv0 with
    | nil => rfl
    | cons a b => simp at g2
  subst e0
  have l1 : kvs.length = kds.length := by rw [← List.length_map (f := (·.1)), k1, List.length_map]
  obtain ⟨p1, p2⟩ := merge_is k1 k2 (l := []) (m := []) rfl .nil
  exact ⟨g1, kvs, rfl, by rw [l1]; exact hz, q _ _ _ _ _ h3 e2 (.own p) (r2.change ho ⟨_, upd_same, p1, p2⟩)⟩
theorem we_disp {keys : List (Option Expr)} {values : List Expr} {pos : Pos} (hall : keys.all (·.isSome) = true) (hl : keys.length = values.length) (h0 : keys ≠ []) (h15 : keys.length ≤ 15)
    (h : ∀ p, O p = none → WPs X keys values Γ (put O p (.dic [])) fun pd O2 => ∃ kds : List (Key × D), pd = kds.map (fun kv => (kD kv.1, kv.2)) ∧ kds.length ≤ 15 ∧ O2 p = some (.dic []) ∧ k (.dic (mergeDk [] kds)) (del O2 p)) : WE X (.Dict keys values pos) Γ O k := by
  refine we_fz (we_dispO hall hl h0 h15 fun p hp => ?_)
  have z := h p hp
  have gen : ∀ (ks : List (Option Expr)) (vs : List Expr) (O : Ow) (kp kp' : List (D × D) → Ow → Prop), (∀ a b, kp a b → kp' a b) → WPs X ks vs Γ O kp → WPs X ks vs Γ O kp' := by
    intro ks
    induction ks with
    | nil => intro vs; cases vs with
      | nil => exact fun O kp kp' i h => i _ _ h
      | cons b vs => exact fun O kp kp' i h => h
    | cons a ks ih =>
      intro vs
      cases a with
      | none => cases vs with
        | nil => exact fun O kp kp' i h => h
        | cons b vs => exact fun O kp kp' i h => h
      | some a => cases vs with
        | nil => exact fun O kp kp' i h => h
        | cons b vs =>
          intro O kp kp' i h
          have h' : WE X a Γ O fun x O1 => WE X b Γ O1 fun y O2 => WPs X ks vs Γ O2 fun r O3 => kp ((x, y) :: r) O3 := h
          exact h'.imp fun x O1 h1 => h1.imp fun y O2 h2 => ih vs O2 _ _ (fun a b => i _ _) h2
  refine gen _ _ _ _ _ (fun pd O2 hh => ?_) z
  obtain ⟨kds, e1, e2, e3, e4⟩ := hh
  refine ⟨kds, e1, e2, e3, p, _, rfl, put_same, ?_⟩
  have e5 : del (put O2 p (.dic (mergeDk [] kds))) p = del O2 p := by
    funext b
    unfold del put
    split
    · rfl
    · rfl
  rw [e5]; exact e4

/-! ### texts -/
theorem wm_s0 {id : String} {C : Str → Prop} {g : Str → V} {gd : Str → D} {x : Str} (ho : MtR X id (fun v xs H Q => ∃ a, v = .str a ∧ xs = [] ∧ C a ∧ Q (g a) H)) (hg : ∀ L, Is X.K L (g x) (gd x)) (hc : C x) (h : k (gd x) O) : WM X id (.str x) [] O k := fun vx vs L H ix is hr Q q => by
  cases is
  exact toM ho ⟨x, ix.str', rfl, hc, q _ _ _ _ _ h (.refl L) (hg L) hr⟩
theorem wm_lower {x : Str} (hz : x.length ≤ 5592405) (h : k (.str (Txt.lower x)) O) : WM X "str.lower" (.str x) [] O k := wm_s0 (gd := fun a => .str (Txt.lower a)) mt_lower (fun _ => .str _) hz h
theorem wm_upper {x : Str} (hz : x.length ≤ 5592405) (h : k (.str (Txt.upper x)) O) : WM X "str.upper" (.str x) [] O k := wm_s0 (gd := fun a => .str (Txt.upper a)) mt_upper (fun _ => .str _) hz h
theorem wm_rstripC {x y : Str} (hz : x.length ≤ sizeLine) (h : k (.str (Txt.rstripChars x y)) O) : WM X "str.rstrip" (.str x) [.str y] O k := fun vx vs L H ix is hr Q q => by
  obtain ⟨v, rfl, i⟩ := is.one'
  exact toM mt_rstripChars ⟨x, y, ix.str', by rw [i.str'], hz, q _ _ _ _ _ h (.refl L) (.str _) hr⟩
theorem wm_removeprefix {x y : Str} (hz : x.length ≤ sizeLine) (h : k (.str (Txt.removeprefix x y)) O) : WM X "str.removeprefix" (.str x) [.str y] O k := fun vx vs L H ix is hr Q q => by
  obtain ⟨v, rfl, i⟩ := is.one'
  exact toM mt_removeprefix ⟨x, y, ix.str', by rw [i.str'], hz, q _ _ _ _ _ h (.refl L) (.str _) hr⟩
theorem wm_startswith {x y : Str} (h : k (.bl (Txt.startswith x y)) O) : WM X "str.startswith" (.str x) [.str y] O k := fun vx vs L H ix is hr Q q => by
  obtain ⟨v, rfl, i⟩ := is.one'
  exact toM mt_startswith ⟨x, y, ix.str', by rw [i.str'], q _ _ _ _ _ h (.refl L) (.bl _) hr⟩
theorem wm_endswith {x y : Str} (h : k (.bl (Txt.endswith x y)) O) : WM X "str.endswith" (.str x) [.str y] O k := fun vx vs L H ix is hr Q q => by
  obtain ⟨v, rfl, i⟩ := is.one'
  exact toM mt_endswith ⟨x, y, ix.str', by rw [i.str'], q _ _ _ _ _ h (.refl L) (.bl _) hr⟩
theorem wm_split {x y : Str} (h0 : (y.length == 0) = false) (hz : x.length + 2 ≤ sizeLine) (h : k (.lst ((Txt.split x y).map .str)) O) : WM X "str.split" (.str x) [.str y] O k := fun vx vs L H ix is hr Q q => by
  obtain ⟨v, rfl, i⟩ := is.one'
  refine toM mt_split ⟨x, y, ix.str', by rw [i.str'], h0, hz, fun p hp => ?_⟩
  obtain ⟨L', le, z, r⟩ := hr.newL hp (is_strs (Txt.split x y))
  exact q _ _ _ _ _ h le z r
theorem wm_splitO {x y : Str} (h0 : (y.length == 0) = false) (hz : x.length + 2 ≤ sizeLine) (h : ∀ p, O p = none → k (.own p) (put O p (.lst ((Txt.split x y).map .str)))) : WM X "str.split" (.str x) [.str y] O k := fun vx vs L H ix is hr Q q => by
  obtain ⟨v, rfl, i⟩ := is.one'
  refine toM mt_split ⟨x, y, ix.str', by rw [i.str'], h0, hz, fun p hp => ?_⟩
  exact q _ _ _ _ _ (h p (hr.free hp).2.1) (.refl L) (.own p) (hr.newLO hp (is_strs (Txt.split x y)))
theorem wm_join {x : Str} {d : D} {ys : List Str} (hd : SqD O d (ys.map .str)) (hz : (ys.map (·.length)).sum + ys.length * x.length ≤ 16777216) (h : k (.str (Txt.join x ys)) O) : WM X "str.join" (.str x) [d] O k := fun vx vs L H ix is hr Q q => by
  obtain ⟨v, rfl, i⟩ := is.one'
  obtain ⟨p, us, rfl, s, t⟩ := sqD_of hr hd i
  obtain rfl := isL_str t
  exact toM mt_join ⟨x, p, ys, ix.str', rfl, .inl s, hz, q _ _ _ _ _ h (.refl L) (.str _) hr⟩
end
end DL
/-! DL, part H: the box of draws; facts handed to a body -/
namespace DL
open L2 PySem
open PySem.Spec PyProof.Rows

section
variable {X : Cx} {Γ : Sg} {O : Ow} {k : KD}
theorem we_boxL {es : List Expr} {pos : Pos} (h : WA X es Γ O fun ds O1 => ∃ g s c : Int, ds = [.int g, .int s, .int c] ∧ k .box O1) : WE X (.List es pos) Γ O k := fun σ L H hs hr Q q => by
  refine toE (pe_lst (pau es)) ?_
  refine h σ L H hs hr _ fun vs ds O1 L1 H1 h1 e1 i1 r1 => ?_
  obtain ⟨g, s, c, rfl, h1⟩ := h1
  have ev : vs = [.int g, .int s, .int c] := isL_int (bs := [g, s, c]) i1
  subst ev
  refine ⟨by show 3 ≤ sizeLine; decide, fun p hp => ?_⟩
  exact q _ _ _ _ _ h1 (e1.trans (Lg.le_bk (r1.free hp).2.2)) (.box Lg.bk_same) (r1.newBox hp g s c)
theorem wi_box {i : Int} (hi : 0 ≤ i ∧ i < 3) (h : ∀ g, k (.int g) O) : WI X .box (.int i) O k := fun vx vy L H ix iy hr Q q => by
  obtain ⟨a, rfl, hb⟩ := ix.box'
  obtain ⟨_, _, g, s, c, e⟩ := hr.bx a _ hb
  obtain ⟨j, rfl⟩ : ∃ j : Nat, i = (j : Int) := ⟨i.toNat, by omega⟩
  have hj : j = 0 ∨ j = 1 ∨ j = 2 := by omega
  obtain ⟨x, hx⟩ : ∃ x : Int, [V.int g, .int s, .int c][j]? = some (.int x) := by
    rcases hj with rfl | rfl | rfl
    · exact ⟨g, rfl⟩
    · exact ⟨s, rfl⟩
    · exact ⟨c, rfl⟩
  exact toI ix_list ⟨a, _, (j : Int), _, rfl, iy.int', .inl (.inl e), atI_nat hx, q _ _ _ _ _ (h x) (.refl L) (.int x) hr⟩
theorem wi_dict {d e : D} {kds : List (Key × D)} {y : Key} (hu : X.A.units + 1 < cLine) (hd : DcD O d kds) (he : valD kds y = some e) (h : k e O) : WI X d (kD y) O k := fun vx vy L H ix iy hr Q q => by
  obtain ⟨a, kvs, rfl, s1, s2, s3⟩ := dcD_of hr hd ix
  obtain ⟨v, g1, g2⟩ := (kv_val s2 s3 y).1 e he
  obtain rfl := kD_is iy
  have g : DGet H a (kV y) (some v) := .inl ⟨kvs, y, .inl s1, rfl, g1.symm⟩
  intro value slice pins s σ v' u I rx ry hs
  obtain rfl : v' = Value.ref a := rx
  exact tail_any (dict_typeIs I g) PySem.F.slot_dict_getitem.lookup (d_getItem hu I g ry fun w' s2 I2 r2 => ⟨v, H, I2, r2, q _ _ _ _ _ h (.refl L) g2 hr⟩) hs
theorem wi_dictS {d e : D} {kds : List (Key × D)} {x : Str} (hu : X.A.units + 1 < cLine) (hd : DcD O d kds) (he : valD kds (.inr x) = some e) (h : k e O) : WI X d (.str x) O k := wi_dict (y := .inr x) hu hd he h

/-! ### facts handed to a body -/
variable {st : List Stmt} {De : DE}
theorem with_va {x : Str} {i : Nat} (hv : Va X x i) (h : Va X x i → WSs X st Γ O De) : WSs X st Γ O De := h hv
theorem with_vs {x : Str} {i : Nat} (hv : Vs X x i) (h : Vs X x i → WSs X st Γ O De) : WSs X st Γ O De := h hv
theorem with_bn {x : Str} {id : String} (hv : Bn X x id) (h : Bn X x id → WSs X st Γ O De) : WSs X st Γ O De := h hv
theorem with_bt {x : Str} {T : String} (hv : Bt X x T) (h : Bt X x T → WSs X st Γ O De) : WSs X st Γ O De := h hv
theorem with_kn {x : Str} {j : Nat} {S : SpD} (hv : Kn X x j S) (h : Kn X x j S → WSs X st Γ O De) : WSs X st Γ O De := h hv
theorem with_kc {x : Str} {C : Addr} {j : Nat} {S : SpD} (hv : Kc X x C j S) (h : Kc X x C j S → WSs X st Γ O De) : WSs X st Γ O De := h hv
theorem with_km {m : Str} {C : Addr} {j : Nat} {S : SpD} (hv : Km X C m j S) (h : Km X C m j S → WSs X st Γ O De) : WSs X st Γ O De := h hv
theorem with_p {p : Prop} (hv : p) (h : p → WSs X st Γ O De) : WSs X st Γ O De := h hv
theorem wss_of {st' : List Stmt} (e : st' = st) (h : WSs X st Γ O De) : WSs X st' Γ O De := e ▸ h
theorem iteD {p : Prop} [Decidable p] {A B : Prop} (h1 : p → A) (h2 : ¬ p → B) : if decide p = true then A else B := by
  by_cases c : p
  · rw [decide_eq_true c]; exact iteT (h1 c)
  · rw [decide_eq_false c]; exact iteF (h2 c)
theorem iteND {p : Prop} [Decidable p] {A B : Prop} (h1 : p → B) (h2 : ¬ p → A) : if (!decide p) = true then A else B := by
  by_cases c : p
  · rw [decide_eq_true c]; exact iteF (h1 c)
  · rw [decide_eq_false c]; exact iteT (h2 c)
theorem iteBo {b : Bool} {A B : Prop} (h1 : b = true → A) (h2 : b = false → B) : if b = true then A else B := by
  cases b with
  | true => exact iteT (h1 rfl)
  | false => exact iteF (h2 rfl)
end
end DL
namespace DL
open L2 PySem
open PySem.Spec PyProof.Rows
section
variable {X : Cx} {Γ : Sg} {O : Ow} {k : KD} {tg : Expr}
/-- a loop over written data, turn by turn -/
def LoopD (X : Cx) (tg : Expr) (body : List Stmt) (De : DE) : List D → Sg → Ow → Prop
  | [], Γ, O => De.nx Γ O
  | d :: ds, Γ, O => WG X tg d Γ O fun Γ2 O2 => WSs X body Γ2 O2 { nx := LoopD X tg body De ds, rt := De.rt, bk := De.nx, ct := LoopD X tg body De ds }
theorem ws_forU {iter : Expr} {body : List Stmt} {pos : Pos} {De : DE} (hp : PassesOwn (model X.prog X.w) X.A X.env X.xe) (hc : X.calm = true) (hfs : ∀ x, foldedSetIterable iter X.env x = pure x)
    (h : ItD X tg iter Γ O fun ds O1 => LoopD X tg body De ds Γ O1) : WS X (.For tg iter body [] pos) Γ O De := by
  refine ws_for hp hc hfs ?_
  obtain ⟨wi, hpi, hit⟩ := h
  refine ⟨wi, hpi, fun σ L H hs hr RR q => hit σ L H hs hr RR fun J ds G Y O' L' H' a => q J ds G Y O' L' H' ⟨fun i Γ' O2 => LoopD X tg body De (ds.drop i) Γ' O2, ?_, fun i d Γ' O2 hd hl => ?_, fun Γ' O2 hl => ?_⟩⟩
  · exact a
  · have hlt : i < ds.length := (List.getElem?_eq_some_iff.mp hd).1
    have hl : LoopD X tg body De (List.drop i ds) Γ' O2 := hl
    rw [List.drop_eq_getElem_cons hlt] at hl
    have e : ds[i] = d := by
      rw [List.getElem?_eq_getElem hlt] at hd
      exact Option.some.inj hd
    rw [e] at hl
    exact hl
  · have hl : LoopD X tg body De (List.drop ds.length ds) Γ' O2 := hl
    rw [List.drop_length] at hl
    exact hl
theorem loop_cons {body : List Stmt} {De : DE} {d : D} {ds : List D} (h : WG X tg d Γ O fun Γ2 O2 => WSs X body Γ2 O2 { nx := LoopD X tg body De ds, rt := De.rt, bk := De.nx, ct := LoopD X tg body De ds }) : LoopD X tg body De (d :: ds) Γ O := h
theorem loop_nil {body : List Stmt} {De : DE} (h : De.nx Γ O) : LoopD X tg body De [] Γ O := h
theorem iteT' {c : Bool} {A B : Prop} (e : c = true) (h : A) : if c = true then A else B := by rw [e]; exact iteT h
theorem iteF' {c : Bool} {A B : Prop} (e : c = false) (h : B) : if c = true then A else B := by rw [e]; exact iteF h
/-- (a, b)[int(c)] -/
theorem wi_two {a b : D} {c : Bool} (h1 : c = true → k b O) (h2 : c = false → k a O) : WI X (.lst [a, b]) (.int (if c = true then 1 else 0)) O k := by
  cases c with
  | true => exact wi_list (.inl rfl) rfl (h1 rfl)
  | false => exact wi_list (.inl rfl) rfl (h2 rfl)
end
end DL
namespace DL
open L2 PySem
open PySem.Spec PyProof.Rows
section
variable {O : Ow} {ds : List D} {p : Addr} {kds : List (Key × D)} {C : Addr} {fds : List (Str × D)}
theorem sq_lst : SqD O (.lst ds) ds := .inl rfl
theorem sq_scr : SqD O (.scr ds) ds := .inr (.inl rfl)
theorem sq_own (h : O p = some (.lst ds)) : SqD O (.own p) ds := .inr (.inr ⟨p, rfl, h⟩)
theorem tq_lst : TqD O (.lst ds) ds := .inl rfl
theorem tq_own (h : O p = some (.lst ds)) : TqD O (.own p) ds := .inr ⟨p, rfl, h⟩
theorem dc_dic : DcD O (.dic kds) kds := .inl rfl
theorem dc_own (h : O p = some (.dic kds)) : DcD O (.own p) kds := .inr ⟨p, rfl, h⟩
theorem in_ins : InD O (.ins C fds) C fds := .inl rfl
theorem in_own (h : O p = some (.ins C fds)) : InD O (.own p) C fds := .inr ⟨p, rfl, h⟩
end
end DL
namespace DL
open L2 PySem
open PySem.Spec PyProof.Rows
theorem small_len {n : Nat} (h : Nat.ble n 1000 = true) : n ≤ sizeLine := Nat.le_trans (Nat.le_of_ble_eq_true h) (by decide)
section
variable {X : Cx} {O : Ow} {k : KD}
theorem wi_scrI {ns : List Int} {i : Int} (h0 : 0 ≤ i) (h1 : i < ns.length) (h : ∀ v, v ∈ ns → k (.int v) O) : WI X (.scr (ns.map .int)) (.int i) O k := by
  obtain ⟨j, rfl⟩ : ∃ j : Nat, i = (j : Int) := ⟨i.toNat, by omega⟩
  have hj : j < ns.length := by omega
  exact wi_list (e := .int ns[j]) sq_scr (atI_nat (by rw [List.getElem?_map, List.getElem?_eq_getElem hj]; rfl)) (h _ (List.getElem_mem hj))
/-- any item of a list -/
theorem wi_any {d : D} {ds : List D} {i : Int} (hd : SqD O d ds) (h0 : 0 ≤ i) (h1 : i < ds.length) (h : ∀ e, e ∈ ds → k e O) : WI X d (.int i) O k := by
  obtain ⟨j, rfl⟩ : ∃ j : Nat, i = (j : Int) := ⟨i.toNat, by omega⟩
  have hj : j < ds.length := by omega
  exact wi_list (e := ds[j]) hd (atI_nat (List.getElem?_eq_getElem hj)) (h _ (List.getElem_mem hj))
theorem wi_anyS {z : Str} {i : Int} (hz : z.length ≤ sizeLine) (h0 : 0 ≤ i) (h1 : i < z.cps.toList.length) (h : ∀ c, c ∈ z.cps.toList → k (.str ⟨#[c]⟩) O) : WI X (.str z) (.int i) O k := by
  obtain ⟨j, rfl⟩ : ∃ j : Nat, i = (j : Int) := ⟨i.toNat, by omega⟩
  have hj : j < z.cps.toList.length := by omega
  exact wi_str (c := z.cps.toList[j]) hz (atI_nat (List.getElem?_eq_getElem hj)) (h _ (List.getElem_mem hj))
end
end DL
namespace DL
open L2 PySem
open PySem.Spec PyProof.Rows
def uSet (X : Cx) : TSet := fun o i v H q => ∀ pins s σ ov iv u, Inv X pins σ H s → RelV o ov → RelV i iv → RelV v u → wpAny (model X.prog X.w) X.A (setItem ov iv u) (fun _ s' => ∃ H', Inv X pins σ H' s' ∧ q H') X.xe s
theorem setu {X : Cx} : PSet X (uSet X) := fun pins s σ H o i v ov iv u Q I ro ri rv h => h pins s σ ov iv u I ro ri rv
theorem toSet {X : Cx} {t : TSet} (h : PSet X t) {o i v : V} {H : Hp} {q : Hp → Prop} (z : t o i v H q) : uSet X o i v H q := fun pins s σ ov iv u I ro ri rv => h pins s σ H o i v ov iv u q I ro ri rv z
def WSet (X : Cx) (x y d : D) (O : Ow) (ko : Ow → Prop) : Prop := ∀ vx vy vd L H, Is X.K L vx x → Is X.K L vy y → Is X.K L vd d → R X.K L O H → ∀ q : Hp → Prop, (∀ O' L' H', ko O' → L.le L' → R X.K L' O' H' → q H') → uSet X vx vy vd H q
section
variable {X : Cx} {Γ : Sg} {O : Ow} {k : KD}
theorem wg_sub {o i : Expr} {d : D} {pos : Pos} {kn : Sg → Ow → Prop} (ha : ∀ v, assign (.Subscript o i pos) X.env v = (do
      let o1 ← holding [v] (eval o X.env)
      let i1 ← holding [v, o1] (eval i X.env)
      standAt pos
      holding [v, o1, i1] (setItem o1 i1 v)
      release [v, o1, i1] [])) (h : WE X o Γ O fun x O1 => WE X i Γ O1 fun y O2 => WSet X x y d O2 (kn Γ)) : WG X (.Subscript o i pos) d Γ O kn := fun v σ L H iv hs hr q hq => by
  refine toG (pg_sub (pu o) (pu i) setu ha) ?_
  refine h σ L H hs hr _ fun x dx O1 L1 H1 h1 e1 i1 r1 => ?_
  refine h1 σ L1 H1 (hs.mono e1) r1 _ fun y dy O2 L2 H2 h2 e2 i2 r2 => ?_
  exact h2 x y v L2 H2 (i1.mono e2) i2 (iv.mono (e1.trans e2)) r2 _ fun O' L' H' a le r => hq _ _ _ _ _ a ((e1.trans e2).trans le) (hs.mono ((e1.trans e2).trans le)) r
theorem wset_box {n i : Int} {ko : Ow → Prop} (hj : 0 ≤ i ∧ i < 3) (h : ko O) : WSet X .box (.int i) (.int n) O ko := fun vx vy vd L H ix iy iv hr q hq => by
  obtain ⟨a, rfl, hb⟩ := ix.box'
  obtain ⟨_, _, g, s, c, e⟩ := hr.bx a _ hb
  obtain rfl := iv.int'
  obtain ⟨j, rfl⟩ : ∃ j : Nat, i = (j : Int) := ⟨i.toNat, by omega⟩
  have hix : ixN 3 (j : Int) = some j := by
    unfold ixN
    rw [if_pos (by omega),
        if_pos (by omega)]
    simp
  have hj' : j = 0 ∨ j = 1 ∨ j = 2 := by omega
  obtain ⟨g', s', c', hz⟩ : ∃ g' s' c' : Int, [V.int g, .int s, .int c].set j (.int n) = [.int g', .int s', .int c'] := by
    rcases hj' with rfl | rfl | rfl
    · exact ⟨n, s, c, rfl⟩
    · exact ⟨g, n, c, rfl⟩
    · exact ⟨g, s, n, rfl⟩
  refine toSet set_list ⟨a, _, (j : Int), j, rfl, iy.int', e, hix, ?_⟩
  rw [hz]
  exact hq _ _ _ h (.refl L) (hr.turn hb g' s' c')
theorem wset_list {p : Addr} {ds : List D} {n : Int} {j : Nat} {d : D} {ko : Ow → Prop} (ho : O p = some (.lst ds)) (hj : ixN ds.length n = some j) (h : ko (put O p (.lst (ds.set j d)))) : WSet X (.own p) (.int n) d O ko := fun vx vy vd L H ix iy iv hr q hq => by
  obtain ⟨xs, g1, g2⟩ := own_lst hr ho
  refine toSet set_list ⟨p, xs, n, j, ix.own', iy.int', g1, by rw [g2.length]; exact hj, ?_⟩
  exact hq _ _ _ h (.refl L) (hr.change ho ⟨_, upd_same, g2.set iv j⟩)
theorem wset_dict {p : Addr} {kds : List (Key × D)} {y : Key} {d : D} {ko : Ow → Prop} (hu : X.A.units + 1 < cLine) (ho : O p = some (.dic kds)) (hz : kds.length < sizeLine) (h : ko (put O p (.dic (putDk kds y d)))) : WSet X (.own p) (kD y) d O ko := fun vx vy vd L H ix iy iv hr q hq => by
  obtain ⟨kvs, g1, g2, g3⟩ := own_dic hr ho
  obtain ⟨p1, p2⟩ := putK_is iv y g2 g3
  have hl : kvs.length < sizeLine := by rw [← List.length_map (f := (·.1)), g2, List.length_map]; exact hz
  obtain rfl := ix.own'
  obtain rfl := kD_is iy
  intro pins s σ ov iv' u I ro ri rv
  obtain rfl : ov = Value.ref p := ro
  exact d_setItem (H' := upd H p (.dK (putK kvs y vd))) hu I (.inl ⟨kvs, y, g1, rfl, hl, rfl⟩) ri rv fun s' I' => ⟨_, I', hq _ _ _ h (.refl L) (hr.change ho ⟨_, upd_same, p1, p2⟩)⟩
theorem wset_dictS {p : Addr} {kds : List (Key × D)} {y : Str} {d : D} {ko : Ow → Prop} (hu : X.A.units + 1 < cLine) (ho : O p = some (.dic kds)) (hz : kds.length < sizeLine) (h : ko (put O p (.dic (putDk kds (.inr y) d)))) : WSet X (.own p) (.str y) d O ko := wset_dict (y := .inr y) hu ho hz h
theorem wps_cons {a b : Expr} {ks : List (Option Expr)} {vs : List Expr} {kp : List (D × D) → Ow → Prop} (h : WE X a Γ O fun x O1 => WE X b Γ O1 fun y O2 => WPs X ks vs Γ O2 fun r O3 => kp ((x, y) :: r) O3) : WPs X (some a :: ks) (b :: vs) Γ O kp := h
theorem wps_nil {kp : List (D × D) → Ow → Prop} (h : kp [] O) : WPs X [] [] Γ O kp := h
theorem small_lt {n : Nat} (h : Nat.ble n 1000 = true) : n < sizeLine := Nat.lt_of_le_of_lt (Nat.le_of_ble_eq_true h) (by decide)
end
end DL
/-! DL, part I: fields by their rule, ranges as lists -/
namespace DL
open L2 PySem
open PySem.Spec PyProof.Rows
section
variable {X : Cx} {Γ : Sg} {O : Ow} {k : KD} {De : DE}
theorem small_lt' {n : Nat} (h : Nat.ble n 999 = true) : n < 1000 := Nat.lt_of_le_of_lt (Nat.le_of_ble_eq_true h) (by decide)
theorem fld_own {p C : Addr} {fds : List (Str × D)} {f : Str} {d : D} (ho : O p = some (.ins C fds)) (hc : Cls X.K C) (hn : NoAttr X.K C f) (hz : fds.length < 1000) (h : De.nx Γ (put O p (.ins C (putFd f d fds)))) : ∃ p' C' fds', D.own p = .own p' ∧ O p' = some (.ins C' fds') ∧ Cls X.K C' ∧ NoAttr X.K C' f ∧ fds'.length < 1000 ∧ De.nx Γ (put O p' (.ins C' (putFd f d fds'))) :=
  ⟨p, C, fds, rfl, ho, hc, hn, hz, h⟩
theorem fld_get {O : Ow} {K : PySem.W.Frag} {C : Addr} {fds : List (Str × D)} {f : Str} {x d : D} (hi : InD O x C fds) (hc : Cls K C) (hn : NoAttr K C f) (hl : fds.lookup f = some d) {φ : D → Prop} (h : φ d) : ∃ C' fds' d', InD O x C' fds' ∧ Cls K C' ∧ NoAttr K C' f ∧ fds'.lookup f = some d' ∧ φ d' :=
  ⟨C, fds, d, hi, hc, hn, hl, h⟩
theorem mth_get {C : Addr} {fds : List (Str × D)} {m : Str} {x : D} {p : Prop} (hi : InD O x C fds) (hl : fds.lookup m = none) (h : p) : ∃ fds', InD O x C fds' ∧ fds'.lookup m = none ∧ p := ⟨fds, hi, hl, h⟩
theorem we_ty {x : Str} {T : String} {pos : Pos} (b : Bt X x T) (h : k (.ty T) O) : WE X (.Name x pos) Γ O k := we_bltn b.hg b.hm b.hv (v := .ty T) rfl b.hn b.hd (fun _ => .ty T) h
/-- a name of the module that stands for written data -/
structure Gd (X : Cx) (x : Str) (d : D) : Prop where
  ex : ∃ u, Gn X x u ∧ ∃ v, RelV v u ∧ ∀ L, Is X.K L v d
theorem we_gd {x : Str} {d : D} {pos : Pos} (g : Gd X x d) (h : k d O) : WE X (.Name x pos) Γ O k := by
  obtain ⟨u, g1, g2⟩ := g.ex
  exact we_glob g1 g2 h
structure GlD (K : PySem.W.Frag) (mg : Str → Option Value) (x : Str) (d : D) : Prop where
  ex : ∃ u, mg x = some u ∧ ∃ v, RelV v u ∧ ∀ L, Is K L v d
theorem GlD.gd {K : PySem.W.Frag} {mg : Str → Option Value} {x : Str} {d : D} (g : GlD K mg x d) {X : Cx} (e3 : X.K = K) (e4 : X.mg = mg) (gl : Gl X x) (db : (x == ("__debug__" : Str)) = false) : Gd X x d := by
  subst e3 e4
  obtain ⟨u, g1, g2⟩ := g.ex
  exact ⟨u, ⟨gl, g1, db⟩, g2⟩
theorem loop_consN {tg : Expr} {body : List Stmt} {d : D} {ds : List D} {Γ' : Sg} (e : Γ = Γ') (h : WG X tg d Γ' O fun Γ2 O2 => WSs X body Γ2 O2 { nx := LoopD X tg body De ds, rt := De.rt, bk := De.nx, ct := LoopD X tg body De ds }) : LoopD X tg body De (d :: ds) Γ O := by
  subst e
  exact h
theorem wss_slots {st : List Stmt} {Γ' : Sg} (e : Γ = Γ') (h : WSs X st Γ' O De) : WSs X st Γ O De := by
  subst e
  exact h
theorem wo_band1 {i : Int} (h : k (.int (i % 2)) O) : WO X (binaryOp .BitAnd) (.int i) (.int 1) O k := wo_band (by rw [bitAnd_m1]; exact h)
theorem bl_eq {b c : Bool} (e : b = c) (h : k (.bl c) O) : k (.bl b) O := e ▸ h
theorem int_eq {b c : Int} (e : b = c) (h : k (.int c) O) : k (.int b) O := e ▸ h
theorem ws_parR {x y : Str} {i j : Nat} {a b : Expr} {px py pt kt k2 pt2 pos} (hc : X.calm = true) (vx : Vs X x i) (vy : Vs X y j) (hij : i ≠ j) (hx : X.env.scope.names.lookup x = some .local) (hy : X.env.scope.names.lookup y = some .local)
    (hw : swappedStores [.Tuple [.Name x px, .Name y py] kt pt] (.Tuple [a, b] k2 pt2) X.env = pure (some [x, y])) (hs : swapsWithSole [.Tuple [.Name x px, .Name y py] kt pt] (.Tuple [a, b] k2 pt2) pos.line X.env = pure false)
    (h : WA X [a, b] Γ O fun ds O1 => ∃ d e, ds = [d, e] ∧ De.nx ((Γ.set i (some d)).set j (some e)) O1) : WS X (.Assign [.Tuple [.Name x px, .Name y py] kt pt] (.Tuple [a, b] k2 pt2) pos) Γ O De := ws_par hc vx.nd vx.hN vy.hN hij hx hy (fun ha => ps_par hc vx.nd vx.hN vy.hN hij hx hy ha hw hs) h
theorem par_i {d e : D} {φ : D → D → Prop} (h : φ d e) : ∃ d' e', [d, e] = [d', e'] ∧ φ d' e' := ⟨d, e, rfl, h⟩
/-- one of two, by a number below two -/
theorem wi_pair {a b : D} {r : Int} (h0 : 0 ≤ r ∧ r < 2) (h1 : r = 0 → k a O) (h2 : r = 1 → k b O) : WI X (.lst [a, b]) (.int r) O k := by
  rcases (show r = 0 ∨ r = 1 by omega) with e | e
  · subst e; exact wi_list (e := a) sq_lst (atI_nat (xs := [a, b]) (j := 0) rfl) (h1 rfl)
  · subst e; exact wi_list (e := b) sq_lst (atI_nat (xs := [a, b]) (j := 1) rfl) (h2 rfl)
/-- repr of a whole number -/
theorem wc_reprI {n : Int} (hs : n.natAbs < 10 ^ 30) (h : k (.str (toString n)) O) : WC X (.builtin "repr") [.int n] O k := fun vs L H is hr Q q => by
  obtain ⟨v, rfl, i⟩ := is.one'
  obtain rfl := i.int'
  have fin : Q (.str (toString n)) H := q _ _ _ _ _ h (.refl L) (.str _) hr
  have hb : n.natAbs.log2 < 1920 := by
    by_cases c : n.natAbs = 0
    · rw [c]; decide
    · exact (Nat.log2_lt c).2 (Nat.lt_of_lt_of_le hs (by decide))
  intro pins s σ us I rx
  obtain ⟨u, rfl, r1⟩ := Vals.one rx
  obtain ⟨t, rfl⟩ := r1
  exact P.repr_of_int (by first | exact hb | exact decide_eq_true hb) ⟨.str (toString n), H, I.tok _, ⟨_, rfl⟩, fin⟩
/-- list(range(a, b)) -/
def rgD (i j : Int) : List D := (List.range (j - i).toNat).map fun n => .int (i + (n : Nat))
theorem we_listRange {a b : Expr} {p p2 pos pos2 : Pos} (hc : X.calm = true) (hg : Gl X "list") (hm : X.mg "list" = none) (hg2 : Gl X "range") (hm2 : X.mg "range" = none)
    (na : starEach [.Call (.Name "range" p2) [a, b] [] pos2] X.env = (false, eval (.Call (.Name "range" p2) [a, b] [] pos2) X.env) :: starEach [] X.env) (nb : starEach [a, b] X.env = (false, eval a X.env) :: starEach [b] X.env) (nc : starEach [b] X.env = (false, eval b X.env) :: starEach [] X.env) (hp : (backTo pos2 (starEach [b] X.env)).any (·.1) = false)
    (h : WE X a Γ O fun x O1 => WE X b Γ O1 fun y O2 => ∃ i j, x = .int i ∧ y = .int j ∧ RgOk i j ∧ k (.lst (rgD i j)) O2) : WE X (.Call (.Name "list" p) [.Call (.Name "range" p2) [a, b] [] pos2] [] pos) Γ O k := fun σ L H hs hr Q q => by
  refine toE (pe_listRg hc hg hm (prg_2 hg2 hm2 (pu a) (pu b) nb nc hp) na) ?_
  refine h σ L H hs hr _ fun x dx O1 L1 H1 h1 e1 i1 r1 => ?_
  refine h1 σ L1 H1 (hs.mono e1) r1 _ fun y dy O2 L2 H2 h2 e2 i2 r2 => ?_
  obtain ⟨i, j, rfl, rfl, ok, h2⟩ := h2
  refine ⟨i, j, (i1.mono e2).int', i2.int', ok, fun l hl => ?_⟩
  have ev : IsL X.K L2 (rgV i j) (rgD i j) := by
    unfold rgV rgD
    generalize List.range (j - i).toNat = z
    induction z with
    | nil => exact .nil
    | cons n z ih => exact .cons (.int _) ih
  obtain ⟨L', le, z, r⟩ := r2.newL hl ev
  exact q _ _ _ _ _ h2 ((e1.trans e2).trans le) z r
end
end DL
namespace DL
open L2 PySem
open PySem.Spec PyProof.Rows
/-- what a written value stands for -/
def Wr (K : PySem.W.Frag) (u : Value) (d : D) : Prop := ∃ v, RelV v u ∧ ∀ L, Is K L v d
inductive WrL (K : PySem.W.Frag) : List Value → List D → Prop
  | nil : WrL K [] []
  | cons {u : Value} {d : D} {us : List Value} {ds : List D} : Wr K u d → WrL K us ds → WrL K (u :: us) (d :: ds)
section
variable {K : PySem.W.Frag}
theorem wr_str {x : Str} {t : Tok} : Wr K (.str x t) (.str x) := ⟨.str x, ⟨t, rfl⟩, fun _ => .str x⟩
theorem wr_int {n : Int} {t : Tok} : Wr K (.int n t) (.int n) := ⟨.int n, ⟨t, rfl⟩, fun _ => .int n⟩
theorem wr_bl {b : Bool} : Wr K (.bool b) (.bl b) := ⟨.bl b, rfl, fun _ => .bl b⟩
theorem wr_non : Wr K .none .non := ⟨.non, rfl, fun _ => .non⟩
theorem wrL_all {us : List Value} {ds : List D} (h : WrL K us ds) : ∃ vs, Vals vs us ∧ ∀ L, IsL K L vs ds := by
  induction h with
  | nil => exact ⟨[], .nil, fun _ => .nil⟩
  | cons a _ ih =>
    obtain ⟨v, r, i⟩ := a
    obtain ⟨vs, rs, is⟩ := ih
    exact ⟨v :: vs, .cons r rs, fun L => .cons (i L) (is L)⟩
theorem wr_tup {a : Addr} {od : Option Addr} {its : Array Value} {n : Nat} {sl : Array (Option Value)} {us : List Value} {ds : List D} (l : K.lookup a = some ⟨.type "tuple", od, .seq its n, sl⟩) (e : its.toList = us) (z : Nat.ble us.length 1000 = true) (h : WrL K us ds) : Wr K (.ref a) (.tup ds) := by
  subst e
  obtain ⟨vs, r, i⟩ := wrL_all h
  have hz : its.size ≤ sizeLine := by rw [← Array.length_toList]; exact small_len z
  exact ⟨.ref a, rfl, fun L => .tup (.inr ⟨_, its, n, l, rfl, rfl, hz, r⟩) (i L)⟩
theorem gl_mk {h : Heap} {mg : Str → Option Value} {x : Str} {u : Value} {d : D} (X : K.In h) (G : h.Ns mainGlobals mg) (a : PySem.W.nsIn K mainGlobals x = some (some u)) (w : Wr K u d) : GlD K mg x d := ⟨u, PySem.W.mg_of X G a, w⟩
end
end DL
namespace DL
open L2 PySem
open PySem.Spec PyProof.Rows
section
variable {base : Heap} {mg : Str → Option Value} {K : PySem.W.Frag} {w : World} {P : Program}
/-- what is looked up of a def behind the top -/
inductive Dn (K : PySem.W.Frag) (x : Str) (st : Stmt) : Prop where
  | mk {f : Addr} {oc : Value} {od an : Option Addr} {osl : Array (Option Value)} {kV doc pm cdv ct : Value} (a : PySem.W.nsIn K mainGlobals x = some (some (.ref f))) (l : K.lookup f = some ⟨oc, od, .func (PySem.W.fnOf x x (defArgs st) (defBody st) (defScope st) .none kV doc pm an cdv ct), osl⟩) (c : PySem.W.codeIn K cdv x = true) (k : PySem.W.keepIn K (.ref f) = true) : Dn K x st
theorem Dn.df {h : Heap} {x : Str} {st : Stmt} {ps : List Str} (D : Dn K x st) (X : K.In h) (G : h.Ns mainGlobals mg) (b : ∀ (kV doc pm : Value) (an : Option Addr) (cdv ct : Value) (us : List Value), us.length = ps.length → bindArgs (PySem.W.fnOf x x (defArgs st) (defBody st) (defScope st) .none kV doc pm an cdv ct) ⟨us, []⟩ = pure (ps.zip us)) : Df K mg x st ps := by
  cases D with
  | mk a l c k => exact df_mk X G a l c k b
/-- .. of a method of the class at C -/
inductive Dnm (K : PySem.W.Frag) (C : Addr) (m qual : Str) (st : Stmt) : Prop where
  | mk {f : Addr} {oc : Value} {od an : Option Addr} {osl : Array (Option Value)} {kV doc pm cdv ct : Value} (a : PySem.W.findIn K (.ref C) m = some (some (.ref f))) (i : PySem.W.isFn K (.ref f) = true) (l : K.lookup f = some ⟨oc, od, .func (PySem.W.fnOf m qual (defArgs st) (defBody st) (defScope st) .none kV doc pm an cdv ct), osl⟩) (c : PySem.W.codeIn K cdv qual = true) (k : PySem.W.keepIn K (.ref f) = true) : Dnm K C m qual st
theorem Dnm.dm {C : Addr} {m qual : Str} {st : Stmt} {ps : List Str} (D : Dnm K C m qual st) (b : ∀ (kV doc pm : Value) (an : Option Addr) (cdv ct : Value) (us : List Value), us.length = ps.length → bindArgs (PySem.W.fnOf m qual (defArgs st) (defBody st) (defScope st) .none kV doc pm an cdv ct) ⟨us, []⟩ = pure (ps.zip us)) : Dm K C m qual st ps := by
  cases D with
  | mk a i l c k => exact dm_mk a i l c k b
/-- .. of an __init__ with z defaults -/
inductive Dni (K : PySem.W.Frag) (C : Addr) (qual : Str) (st : Stmt) (z : Nat) : Prop where
  | mk {f : Addr} {oc : Value} {od an : Option Addr} {osl : Array (Option Value)} {kV doc pm cdv ct : Value} {T : Addr} {ot : Value} {dt : Option Addr} {its : Array Value} {n : Nat} {stt : Array (Option Value)} (m : PySem.W.makesIn K C = true) (a : PySem.W.findIn K (.ref C) "__init__" = some (some (.ref f))) (i : PySem.W.isFn K (.ref f) = true) (kc : PySem.W.keepIn K (.ref C) = true) (l : K.lookup f = some ⟨oc, od, .func (PySem.W.fnOf "__init__" qual (defArgs st) (defBody st) (defScope st) (.ref T) kV doc pm an cdv ct), osl⟩) (c : PySem.W.codeIn K cdv qual = true)
      (lT : K.lookup T = some ⟨ot, dt, .seq its n, stt⟩) (hz : its.size = z) : Dni K C qual st z
theorem Dni.di {C : Addr} {qual : Str} {st : Stmt} {ps : List Str} {z : Nat} (D : Dni K C qual st z)
    (b : ∀ (T : Addr) (its : Array Value) (kV doc pm : Value) (an : Option Addr) (cdv ct : Value) (us : List Value), its.size = z → us.length = ps.length → ∃ k, bindArgs (PySem.W.fnOf "__init__" qual (defArgs st) (defBody st) (defScope st) (.ref T) kV doc pm an cdv ct) ⟨us, []⟩ = seqItems? (.ref T) >>= k ∧ k (some its) = pure (ps.zip us)) : Di K C qual st ps := by
  cases D with
  | mk m a i kc l c lT hz => exact di_mkD m a i kc l c lT z hz (b _)
/-- the law's own def, whichever heap it starts from -/
def Pl (P : Program) (w : World) (K : PySem.W.Frag) (mg : Str → Option Value) (base : Heap) (x : Str) (st : Stmt) (ps : List Str) (j : Nat) (S : SpD) : Prop := ∀ (f : Addr) (fd : FuncData), FunX K x x st f fd → FnG P w K mg base CX0 j f fd ps (spOf K S)
theorem Pl.of {x : Str} {st : Stmt} {N ps : List Str} {j : Nat} {S : SpD} (Sc : FnScope N ps (defScope st)) (len : ∀ ds O k kx, S ds O k kx → ds.length = ps.length)
    (h : ∀ (f : Addr) (cdv : Value) (A : Around) (outer : List Env) (s : Shared) (H : Hp) (E : XK), A.guards = some [] → Room j (A.deeper (envOfC x (defScope st) s.heap.objs.size f cdv)) → ∀ ds O k kx, S ds O k kx →
      WSs (Bo P w K mg base N x st f cdv A outer s H E) (defBody st) (gst N.length ds) O { nx := fun _ O' => Ret k .non O', rt := Ret k }) : Pl P w K mg base x st ps (j + 1) S := fun f fd F => fn_body F Sc len (h f)
theorem law_end {h : Heap} {x p : Str} {st : Stmt} {j : Nat} {S : SpD} {fa : Addr} (X : K.In h) (G : h.Ns mainGlobals mg) (hfa : mg x = some (.ref fa)) (D : Dn K x st)
    (b : ∀ (kV doc pm : Value) (an : Option Addr) (cdv ct u : Value), bindArgs (PySem.W.fnOf x x (defArgs st) (defBody st) (defScope st) .none kV doc pm an cdv ct) ⟨[u], []⟩ = pure [(p, u)])
    (F : ∀ base : Heap, K.In base → base.Ns mainGlobals mg → Pl P w K mg base x st [p] j S) :
    ∃ fd : FuncData, (∀ (s : Shared) (u : Value), BindsTo s fd ⟨[u], []⟩ [(p, u)]) ∧ ∀ base : Heap, K.In base → base.Ns mainGlobals mg → FnG P w K mg base CX0 j fa fd [p] (spOf K S) := by
  cases D with
  | mk a l c k =>
    have e := hfa.symm.trans (PySem.W.mg_of X G a)
    cases e
    exact ⟨_, fun s u => .of_eq (b _ _ _ _ _ _ u), fun base i n => F base i n _ _ (funx_mk l c)⟩
end
end DL
/-! DL, part J: while, bools by is, texts repeated, repr of small texts -/
namespace DL
open L2 PySem
open PySem.Spec PyProof.Rows
section
variable {X : Cx} {Γ : Sg} {O : Ow} {k : KD} {De : DE}
theorem ws_while {c : Expr} {body : List Stmt} {pos : Pos} (hp : PassesOwn (model X.prog X.w) X.A X.env X.xe)
    (h : ∃ I : Nat → Sg → Ow → Prop, (∃ m, I m Γ O) ∧ ∀ m Γ' O', I m Γ' O' → WT X c Γ' O' fun b O1 => if b = true then WSs X body Γ' O1 { nx := fun Γ2 O2 => ∃ m', m' < m ∧ I m' Γ2 O2, rt := De.rt, bk := De.nx, ct := fun Γ2 O2 => ∃ m', m' < m ∧ I m' Γ2 O2 } else De.nx Γ' O1) : WS X (.While c body [] pos) Γ O De := fun σ L H hs hr E q => by
  obtain ⟨I, ⟨m0, i0⟩, step⟩ := h
  refine toS (ps_while hp (ptu c) (pssu body)) ?_
  refine ⟨fun m σ' H' => ∃ Γ' O' L', I m Γ' O' ∧ L.le L' ∧ Sl X.K L' σ' Γ' ∧ R X.K L' O' H', ⟨m0, Γ, O, L, i0, .refl L, hs, hr⟩, ?_⟩
  rintro m σ1 H1 ⟨Γ1, O1, L1, i1, le, s1, r1⟩
  refine step m Γ1 O1 i1 σ1 L1 H1 s1 r1 _ fun t O2 L2 H2 h2 e2 r2 => ?_
  cases t with
  | true =>
    refine iteT ⟨fun σ' H' => ∃ m', m' < m ∧ ∃ Γ' O' L', I m' Γ' O' ∧ L.le L' ∧ Sl X.K L' σ' Γ' ∧ R X.K L' O' H', fun σ' H' z => z, ?_⟩
    have h2' := h2
    rw [if_pos rfl] at h2'
    refine h2' σ1 L2 H2 (s1.mono e2) r2 _ ⟨?_, ?_, ?_, ?_⟩
    · rintro Γ5 O5 σ5 L5 H5 ⟨m', lt, a5⟩ e5 s5 r5
      exact ⟨m', lt, Γ5, O5, L5, a5, (le.trans e2).trans e5, s5, r5⟩
    · exact q.rt.le (le.trans e2)
    · exact fun Γ5 O5 σ5 L5 H5 a5 e5 s5 r5 => q.nx _ _ _ _ _ a5 ((le.trans e2).trans e5) s5 r5
    · rintro Γ5 O5 σ5 L5 H5 ⟨m', lt, a5⟩ e5 s5 r5
      exact ⟨m', lt, Γ5, O5, L5, a5, (le.trans e2).trans e5, s5, r5⟩
  | false =>
    refine iteF ?_
    have h2' := h2
    rw [if_neg (by decide)] at h2'
    exact q.nx _ _ _ _ _ h2' (le.trans e2) (s1.mono e2) r2
variable {a b : Bool}
theorem wo_is_bb (h : k (.bl (decide (a = b))) O) : WO X (compareOp .Is) (.bl a) (.bl b) O k := fun vx vy L H ix iy hr Q q => toO op_is_bl ⟨a, b, ix.bl', iy.bl', q _ _ _ _ _ h (.refl L) (.bl _) hr⟩
theorem wo_not_bb (h : k (.bl (!decide (a = b))) O) : WO X (compareOp .IsNot) (.bl a) (.bl b) O k := fun vx vy L H ix iy hr Q q => toO op_isnot_bl ⟨a, b, ix.bl', iy.bl', q _ _ _ _ _ h (.refl L) (.bl _) hr⟩
theorem tym_str {z : Str} {p : Prop} (h : p) : TyM O (.str z) "str" ∧ p := ⟨rfl, h⟩
theorem len_ok {z : Str} (h : z.length ≤ 1000) : z.length ≤ 5592405 := Nat.le_trans h (by decide)
theorem len_okz {z : Str} (h : z.length ≤ 1000) : z.length ≤ sizeLine := Nat.le_trans h (by decide)
/-- a text some times -/
def timesS (x : Str) (n : Nat) : Str := ⟨(List.replicate n x.cps).foldl (· ++ ·) #[]⟩
theorem times_size {c : Array Nat} : ∀ (n : Nat) (acc : Array Nat), ((List.replicate n c).foldl (· ++ ·) acc).size = acc.size + n * c.size
  | 0, acc => by simp
  | n + 1, acc => by
    rw [List.replicate_succ, List.foldl_cons, times_size n, Array.size_append, Nat.succ_mul]
    omega
theorem wo_mulS {x : Str} {n : Nat} (hn : n ≤ 1000) (h0 : 0 < x.length) (hx : x.length ≤ 1000) (h : k (.str (timesS x n)) O) : WO X (binaryOp .Mult) (.str x) (.int (n : Int)) O k := fun vx vy L H ix iy hr Q q => by
  obtain rfl := ix.str'
  obtain rfl := iy.int'
  have fin : Q (.str (timesS x n)) H := q _ _ _ _ _ h (.refl L) (.str _) hr
  intro pins s σ u1 u2 I r1 r2
  obtain ⟨t, rfl⟩ := r1
  obtain ⟨u, rfl⟩ := r2
  have hm : x.length * n ≤ 1000 * 1000 := Nat.mul_le_mul hx hn
  refine P.mul_str ?_ ?_ ?_ ?_
  · have h2 : ¬ (n : Int) ≥ 2 ^ 63 := by omega
    have h3 : ¬ (n : Int) < -(2 ^ 63 : Int) := by omega
    rw [decide_eq_false h3, decide_eq_false h2]; rfl
  · intro h1 _ h3
    have h5 : (2 ^ 63 - 1) / (n : Int) < 1000 := by omega
    have h6 := (Int.ediv_lt_iff_lt_mul (by omega : (0 : Int) < n)).mp h5
    omega
  · intro _ _
    rw [Int.toNat_natCast]
    unfold Builtin.Str.tooLong
    have : ¬ x.length * n > sizeLine := by rw [sizeLine_eq]; omega
    exact decide_eq_false this
  · by_cases h1 : (n : Int) < 1
    · obtain rfl : n = 0 := by omega
      rw [if_pos h1]
      exact ⟨Nat.zero_le _, .str Str.empty, H, I.tok _, ⟨_, rfl⟩, fin⟩
    rw [if_neg h1]
    by_cases h2 : n = 1
    · subst h2
      rw [if_pos (by simp)]
      refine ⟨.str x, H, I, ⟨_, rfl⟩, ?_⟩
      have e : timesS x 1 = x := by
        show (⟨#[] ++ x.cps⟩ : Str) = x
        rw [Array.empty_append]
      rw [e] at fin
      exact fin
    · have h3 : ¬ ((n : Int) == 1 || x.length == 0) = true := by
        simp only [Bool.or_eq_true, beq_iff_eq]
        omega
      rw [if_neg h3, Int.toNat_natCast]
      refine ⟨?_, .str (timesS x n), H, I.tok _, ⟨_, rfl⟩, fin⟩
      show (timesS x n).cps.size ≤ _
      unfold timesS
      rw [times_size, sizeLine_eq]
      have e : x.cps.size = x.length := rfl
      rw [e, Nat.mul_comm]
      show 0 + _ ≤ _
      omega
end
end DL
/-! DL, part K: texts as lists of code points -/
namespace DL
open L2 PySem
open PySem.Spec PyProof.Rows
def b32 (c : Nat) : Bool := decide (c = 32)
/-- without the blanks at its end -/
def rs (l : List Nat) : List Nat := (l.reverse.dropWhile b32).reverse
theorem str_ext {x y : Str} (h : x.cps.toList = y.cps.toList) : x = y := by
  cases x; cases y
  congr
  exact Array.toList_inj.mp h
theorem take_len {p : Nat → Bool} : ∀ l : List Nat, l.drop (l.takeWhile p).length = l.dropWhile p
  | [] => rfl
  | a :: l => by
    by_cases h : p a = true
    · rw [List.takeWhile_cons_of_pos h, List.dropWhile_cons_of_pos h, List.length_cons, List.drop_succ_cons, take_len l]
    · rw [List.takeWhile_cons_of_neg h, List.dropWhile_cons_of_neg h]
      rfl
theorem rs_take (l : List Nat) : l.take (l.length - (l.reverse.takeWhile b32).length) = rs l := by
  unfold rs
  rw [← take_len]
  have h1 : l.reverse.reverse.take (l.length - (l.reverse.takeWhile b32).length) = (l.reverse.drop (l.reverse.takeWhile b32).length).reverse := by
    rw [List.reverse_drop, List.length_reverse]
  rw [List.reverse_reverse] at h1
  exact h1
theorem rstrip_tl (z : Str) : (Txt.rstripChars z " ").cps.toList = rs z.cps.toList := by
  unfold Txt.rstripChars
  rw [stripBy_eq, StrLaws.strSub_toList]
  have e0 : (" " : Str).cps.contains = b32 := by
    funext c
    have e : (" " : Str).cps = #[32] := rfl
    rw [e]
    unfold b32
    by_cases h : c = 32
    · subst h; simp
    · simp [h]
  rw [e0]
  show ((z.cps.toList.drop 0).take (z.cps.size - ((z.cps.toList.drop 0).reverse.takeWhile b32).length - 0)) = _
  rw [List.drop_zero, Nat.sub_zero, ← Array.length_toList]
  exact rs_take _
theorem dw_dw : ∀ l : List Nat, (l.dropWhile b32).dropWhile b32 = l.dropWhile b32
  | [] => rfl
  | a :: r => by
    by_cases h : b32 a = true
    · rw [List.dropWhile_cons_of_pos h]; exact dw_dw r
    · rw [List.dropWhile_cons_of_neg h, List.dropWhile_cons_of_neg h]
theorem rs_rs (l : List Nat) : rs (rs l) = rs l := by
  unfold rs
  rw [List.reverse_reverse, dw_dw]
theorem dw_map {f : Nat → Nat} (hf : ∀ c, b32 (f c) = b32 c) : ∀ l : List Nat, (l.map f).dropWhile b32 = (l.dropWhile b32).map f
  | [] => rfl
  | a :: r => by
    by_cases h : b32 a = true
    · rw [List.map_cons, List.dropWhile_cons_of_pos (by rw [hf]; exact h), List.dropWhile_cons_of_pos h]; exact dw_map hf r
    · rw [List.map_cons, List.dropWhile_cons_of_neg (by rw [hf]; exact h), List.dropWhile_cons_of_neg h]
      rfl
theorem rs_map {f : Nat → Nat} (hf : ∀ c, b32 (f c) = b32 c) (l : List Nat) : rs (l.map f) = (rs l).map f := by
  unfold rs
  rw [← List.map_reverse, dw_map hf, List.map_reverse]
theorem rs_snoc (l : List Nat) (a : Nat) : rs (l ++ [a]) = if a = 32 then rs l else l ++ [a] := by
  unfold rs
  rw [List.reverse_append]
  show (List.dropWhile b32 (a :: l.reverse)).reverse = _
  by_cases h : a = 32
  · rw [if_pos h, List.dropWhile_cons_of_pos (by unfold b32; simp [h])]
  · rw [if_neg h, List.dropWhile_cons_of_neg (by unfold b32; simp [h]), List.reverse_cons, List.reverse_reverse]
theorem rs_sub {l : List Nat} : ∀ c ∈ rs l, c ∈ l := fun c h => by
  unfold rs at h
  have h := List.mem_reverse.mp h
  exact List.mem_reverse.mp ((List.dropWhile_sublist _).subset h)
theorem lo1_32 (c : Nat) : b32 (lo1 c) = b32 c := by
  unfold lo1 b32
  by_cases h : 65 ≤ c ∧ c ≤ 90
  · rw [if_pos h, decide_eq_false (by omega), decide_eq_false (by omega)]
  · rw [if_neg h]
theorem lo1_lo1 (c : Nat) : lo1 (lo1 c) = lo1 c := by
  unfold lo1
  by_cases h : 65 ≤ c ∧ c ≤ 90
  · rw [if_pos h, if_neg (by omega)]
  · rw [if_neg h, if_neg h]
theorem lo1_lt {c : Nat} (h : c < 128) : lo1 c < 128 := by
  unfold lo1
  split <;> omega
/-- a text of plain signs -/
def As (z : Str) : Prop := ∀ c ∈ z.cps.toList, c < 128
theorem lower_tl {z : Str} (h : As z) : (Txt.lower z).cps.toList = z.cps.toList.map lo1 := by
  rw [lower_ascii h]
  exact Array.toList_map
theorem As.lower {z : Str} (h : As z) : As (Txt.lower z) := fun c hc => by
  rw [lower_tl h] at hc
  obtain ⟨a, ha, rfl⟩ := List.mem_map.mp hc
  exact lo1_lt (h a ha)
theorem As.rstrip {z : Str} (h : As z) : As (Txt.rstripChars z " ") := fun c hc => by
  rw [rstrip_tl] at hc
  exact h c (rs_sub c hc)
end DL
namespace DL
open L2 PySem
open PySem.Spec PyProof.Rows
theorem sjoin_tl : ∀ ys : List Str, (Str.join "" ys).cps.toList = (ys.map (·.cps.toList)).flatten
  | [] => rfl
  | [x] => by simp [Str.join]
  | x :: y :: r => by
    have ih := sjoin_tl (y :: r)
    have e : (Str.join "" (x :: y :: r)) = x ++ "" ++ Str.join "" (y :: r) := rfl
    rw [e]
    have e2 : ∀ a b : Str, (a ++ b).cps.toList = a.cps.toList ++ b.cps.toList := fun a b => by
      show (a.cps ++ b.cps).toList = _
      exact Array.toList_append
    rw [e2, e2, ih]
    have e3 : (("" : Str).cps.toList : List Nat) = [] := rfl
    rw [e3, List.append_nil, List.map_cons (a := x), List.flatten_cons]
theorem join_tl (ys : List Str) : (Txt.join "" ys).cps.toList = (ys.map (·.cps.toList)).flatten := by
  show (Builtin.Str.glued "" ys).cps.toList = _
  rw [StrLaws.glued_eq_join]
  exact sjoin_tl ys
/-- text[-1:] and text[:-1] -/
theorem zlen (z : Str) : z.length = z.cps.toList.length := by
  show z.cps.size = _
  rw [Array.length_toList]
theorem cut_tl (z : Str) (lo hi : Option Int) : (cutS z lo hi).cps.toList = (z.cps.toList.drop (HT.sIx z.length 0 lo)).take (HT.sIx z.length z.length hi - HT.sIx z.length 0 lo) := rfl
theorem cut_last (z : Str) : (cutS z (some (-1)) none).cps.toList = z.cps.toList.drop (z.cps.toList.length - 1) := by
  have e1 : HT.sIx z.length 0 (some (-1)) = z.length - 1 := by
    show (if (-1 : Int) < 0 then ((-1 : Int) + (z.length : Int)).toNat else min (-1 : Int).toNat z.length) = _
    rw [if_pos (by decide)]; omega
  rw [cut_tl, e1, ← zlen]
  show List.take (z.length - (z.length - 1)) _ = _
  refine List.take_of_length_le ?_
  rw [List.length_drop, ← zlen]
  omega
theorem cut_init (z : Str) : (cutS z none (some (-1))).cps.toList = z.cps.toList.take (z.cps.toList.length - 1) := by
  have e1 : HT.sIx z.length z.length (some (-1)) = z.length - 1 := by
    show (if (-1 : Int) < 0 then ((-1 : Int) + (z.length : Int)).toNat else min (-1 : Int).toNat z.length) = _
    rw [if_pos (by decide)]; omega
  rw [cut_tl, e1, ← zlen]
  show List.take (z.length - 1 - 0) (List.drop 0 _) = _
  rw [List.drop_zero, Nat.sub_zero]
/-- one turn of the law's own stripping -/
theorem bare_turn (z : Str) : (cutS z (some (-1)) none = " " ∧ rs (cutS z none (some (-1))).cps.toList = rs z.cps.toList ∧ (cutS z none (some (-1))).length < z.length) ∨ (cutS z (some (-1)) none ≠ " " ∧ rs z.cps.toList = z.cps.toList) := by
  rcases List.eq_nil_or_concat z.cps.toList with h | ⟨l, a, h⟩
  · right
    refine ⟨fun e => ?_, by rw [h]; rfl⟩
    have e1 := congrArg (fun x : Str => x.cps.toList) e
    have e2 : (cutS z (some (-1)) none).cps.toList = [32] := e1
    rw [cut_last, h] at e2
    exact nomatch e2
  · rw [List.concat_eq_append] at h
    have e2 : (cutS z (some (-1)) none).cps.toList = [a] := by
      rw [cut_last, h, List.length_append]
      simp
    have e3 : (cutS z none (some (-1))).cps.toList = l := by
      rw [cut_init, h, List.length_append]
      simp
    by_cases c : a = 32
    · left
      subst c
      refine ⟨str_ext e2, ?_, ?_⟩
      · rw [e3, h, rs_snoc, if_pos rfl]
      · rw [zlen, zlen, e3, h, List.length_append]
        simp
    · right
      refine ⟨fun e => ?_, by rw [h, rs_snoc, if_neg c]⟩
      rw [e] at e2
      have e4 : [32] = [a] := e2
      exact c (List.cons.inj e4).1.symm
section
variable {X : Cx} {Γ : Sg} {O : Ow}
theorem wp_none {kp : Option Int → Ow → Prop} (h : kp none O) : WP X none Γ O kp := h
theorem wp_some {e : Expr} {kp : Option Int → Ow → Prop} (h : WE X e Γ O fun d O1 => ∃ i, d = .int i ∧ kp (some i) O1) : WP X (some e) Γ O kp := h
end
end DL
/-! DL, part M: repr of a plain text -/
namespace DL
open PySem PySem.Spec PyProof.Rows L2 Builtin Builtin.Str
theorem rc39 : ∀ c, c < 128 → (reprChar 39 c).length ≤ 4 := by decide +kernel
theorem rc34 : ∀ c, c < 128 → (reprChar 34 c).length ≤ 4 := by decide +kernel
theorem rq (x : Str) : reprQuote x = 39 ∨ reprQuote x = 34 := by
  unfold reprQuote
  split <;> simp
theorem rfold {q : Nat} (hq : q = 39 ∨ q = 34) : ∀ (l : List Nat) (acc : Array Nat), (∀ c ∈ l, c < 128) → (l.foldl (fun out c => out ++ (reprChar q c).toArray) acc).size ≤ acc.size + 4 * l.length
  | [], acc, _ => by simp
  | c :: l, acc, h => by
    rw [List.foldl_cons]
    have ih := rfold hq l (acc ++ (reprChar q c).toArray) fun d hd => h d (List.mem_cons_of_mem _ hd)
    have hc : (reprChar q c).length ≤ 4 := by
      have h0 := h c (List.mem_cons_self ..)
      rcases hq with rfl | rfl
      · exact rc39 c h0
      · exact rc34 c h0
    have e1 : (acc ++ (reprChar q c).toArray).size = acc.size + (reprChar q c).length := by simp
    rw [e1] at ih
    rw [List.length_cons]
    omega
theorem repr_as {z : Str} (h : As z) : (reprText z).length ≤ 4 * z.length + 2 := by
  have hr := rfold (rq z) z.cps.toList #[reprQuote z] h
  have e : (reprText z).length = (z.cps.toList.foldl (fun out c => out ++ (reprChar (reprQuote z) c).toArray) #[reprQuote z]).size + 1 := by
    show (Array.push _ _).size = _
    rw [Array.size_push,
        ← Array.foldl_toList]
  rw [e, zlen]
  have e2 : (#[reprQuote z] : Array Nat).size = 1 := rfl
  rw [e2] at hr
  omega
section
variable {X : Cx} {O : Ow} {k : KD}
theorem wc_reprA {z : Str} (h1 : As z) (h2 : z.length ≤ 1000) (h : k (.str (reprText z)) O) : WC X (.builtin "repr") [.str z] O k := fun vs L H is hr Q q => by
  obtain ⟨v, rfl, i⟩ := is.one'
  obtain rfl := i.str'
  have fin : Q (.str (reprText z)) H := q _ _ _ _ _ h (.refl L) (.str _) hr
  have hz : (reprText z).length ≤ sizeLine := by
    have := repr_as h1
    rw [sizeLine_eq]
    omega
  intro pins s σ us I rx
  obtain ⟨u, rfl, r1⟩ := Vals.one rx
  obtain ⟨t, rfl⟩ := r1
  exact P.repr_of_str ⟨.str (reprText z), H, I.tok _, ⟨_, rfl⟩, fin⟩ hz
theorem wc_reprN (h : k (.str "None") O) : WC X (.builtin "repr") [.non] O k := fun vs L H is hr Q q => by
  obtain ⟨v, rfl, i⟩ := is.one'
  obtain rfl := i.non'
  have fin : Q (.str "None") H := q _ _ _ _ _ h (.refl L) (.str _) hr
  intro pins s σ us I rx
  obtain ⟨u, rfl, r1⟩ := Vals.one rx
  cases r1
  exact P.repr_of_none ⟨.str "None", H, I.tok _, ⟨_, rfl⟩, fin⟩
end
end DL
/-! DL, part N: how many truths; repr of truths; repr tells cells apart -/
namespace DL
open PySem PySem.Spec PyProof.Rows L2 Builtin Builtin.Str
def eqb (c : Bool) (v : Value) : Bool := match v with
  | .bool b => b == c
  | _ => false
theorem bools_of : ∀ {bs : List Bool} {us : List Value}, Vals (bs.map V.bl) us → us = bs.map Value.bool
  | [], _, h => by cases h; rfl
  | b :: bs, _, h => by
    cases h with
    | cons r t => cases r; rw [bools_of t]; rfl
theorem eqb_count {c : Bool} : ∀ bs : List Bool, (bs.map Value.bool).countP (eqb c) = bs.count c
  | [] => rfl
  | b :: bs => by
    rw [List.map_cons, List.countP_cons, List.count_cons, eqb_count bs]
    rfl
theorem eqb_at {A : Around} {s : Shared} {c : Bool} {bs : List Bool} : ∀ y, y ∈ (bs.map Value.bool).toArray → SeqAt.EqAt A s y (.bool c) (eqb c y) := fun y hy => by
  obtain ⟨b, _, e⟩ := List.mem_map.mp (List.mem_toArray.mp hy)
  rw [← e]
  exact SeqAt.EqAt.bool_bool b c
theorem mt_bcount {X : Cx} : MtR X "list.count" (fun x xs H Q => ∃ (p : Addr) (bs : List Bool) (c : Bool), x = .ref p ∧ xs = [.bl c] ∧ SqL X.K H p (bs.map V.bl) ∧ Q (.int (bs.count c : Nat)) H) :=
  fun pins s σ H x xs v us Q I rx rxs ⟨p, bs, c, hx, hxs, hs, q⟩ => by
    subst hx; subst hxs
    have ev : v = .ref p := rx
    obtain ⟨c', ec, rc⟩ := rxs.one
    have ec' : c' = .bool c := rc
    rw [ev, ec, ec']
    obtain ⟨its, hv, hP, _⟩ := I.list hs
    rw [bools_of hv] at hP
    obtain ⟨o, n, h1, h2, _, h4⟩ := hP
    cases o with
    | mk ocls odict odata oslots =>
      have h2' : ocls = .type "list" := h2
      have h4' : odata = .seq (bs.map Value.bool).toArray n := h4
      rw [h2', h4'] at h1
      have hcall := SeqAt.list_countAt p (bs.map Value.bool).toArray n odict oslots (.bool c) (eqb c)
      refine call_meets PySem.F.slot_list_count ⟨_, h1, rfl⟩ PySem.F.entry_list_count (PySem.F.args_list_count_2 _ _) hcall ⟨h1, eqb_at, .int (bs.count c : Nat), H, I.tok _, ?_, q⟩
      exact ⟨s.toks, by rw [List.toList_toArray, eqb_count bs]⟩
section
variable {X : Cx} {O : Ow} {k : KD}
theorem wm_countB {bs : List Bool} {c : Bool} (h : k (.int (bs.count c : Nat)) O) : WM X "list.count" (.lst (bs.map .bl)) [.bl c] O k := fun vx vs L H ix is hr Q q => by
  obtain ⟨v, rfl, i1⟩ := is.one'
  obtain rfl := i1.bl'
  obtain ⟨p, us, rfl, s, t⟩ := sqD_of hr sq_lst ix
  rw [isL_bl t] at s
  exact toM mt_bcount ⟨p, bs, c, rfl, rfl, s, q _ _ _ _ _ h (.refl L) (.int _) hr⟩
theorem wm_count2 {a b c : Bool} (h : k (.int ([a, b].count c : Nat)) O) : WM X "list.count" (.lst [.bl a, .bl b]) [.bl c] O k := wm_countB (bs := [a, b]) h
theorem wm_count3 {a b e c : Bool} (h : k (.int ([a, b, e].count c : Nat)) O) : WM X "list.count" (.lst [.bl a, .bl b, .bl e]) [.bl c] O k := wm_countB (bs := [a, b, e]) h
def blS (b : Bool) : Str := if b then "True" else "False"
theorem wc_reprB {b : Bool} (h : k (.str (blS b)) O) : WC X (.builtin "repr") [.bl b] O k := fun vs L H is hr Q q => by
  obtain ⟨v, rfl, i⟩ := is.one'
  obtain rfl := i.bl'
  have fin : Q (.str (blS b)) H := q _ _ _ _ _ h (.refl L) (.str _) hr
  intro pins s σ us I rx
  obtain ⟨u, rfl, r1⟩ := Vals.one rx
  cases r1
  exact P.repr_of_bool ⟨.str (blS b), H, I.tok _, ⟨_, rfl⟩, fin⟩
theorem blS_inj {a b : Bool} : decide (blS a = blS b) = decide (a = b) := by cases a <;> cases b <;> decide +kernel
theorem tym_lst {ds : List D} {p : Prop} (h : p) : TyM O (.lst ds) "list" ∧ p := ⟨.inl ⟨rfl, ds, sq_lst⟩, h⟩
end
/-! ### repr tells texts apart -/
theorem rc_pre39 : ∀ c, c < 128 → ∀ d, d < 128 → (reprChar 39 c).isPrefixOf (reprChar 39 d) = true → c = d := by decide +kernel
theorem rc_pre34 : ∀ c, c < 128 → ∀ d, d < 128 → (reprChar 34 c).isPrefixOf (reprChar 34 d) = true → c = d := by decide +kernel
theorem rc_pos : ∀ c, c < 128 → reprChar 39 c ≠ [] ∧ reprChar 34 c ≠ [] := by decide +kernel
theorem fold_flat {f : Nat → List Nat} : ∀ (l : List Nat) (acc : Array Nat), (l.foldl (fun out c => out ++ (f c).toArray) acc).toList = acc.toList ++ l.flatMap f
  | [], acc => by simp
  | c :: l, acc => by
    rw [List.foldl_cons, fold_flat l, List.flatMap_cons]
    simp
theorem repr_tl (z : Str) : (reprText z).cps.toList = reprQuote z :: (z.cps.toList.flatMap (reprChar (reprQuote z)) ++ [reprQuote z]) := by
  show (Array.push _ _).toList = _
  rw [Array.toList_push, ← Array.foldl_toList, fold_flat]
  rfl
theorem flat_inj {f : Nat → List Nat} (h1 : ∀ c, c < 128 → ∀ d, d < 128 → (f c).isPrefixOf (f d) = true → c = d) (h0 : ∀ c, c < 128 → f c ≠ []) : ∀ {l m : List Nat}, (∀ c ∈ l, c < 128) → (∀ c ∈ m, c < 128) → l.flatMap f = m.flatMap f → l = m
  | [], [], _, _, _ => rfl
  | [], d :: m, _, hm, e => by
    rw [List.flatMap_cons, List.flatMap_nil] at e
    exact absurd (List.append_eq_nil_iff.mp e.symm).1 (h0 d (hm d (List.mem_cons_self ..)))
  | c :: l, [], hl, _, e => by
    rw [List.flatMap_cons, List.flatMap_nil] at e
    exact absurd (List.append_eq_nil_iff.mp e).1 (h0 c (hl c (List.mem_cons_self ..)))
  | c :: l, d :: m, hl, hm, e => by
    rw [List.flatMap_cons, List.flatMap_cons] at e
    have hc := hl c (List.mem_cons_self ..)
    have hd := hm d (List.mem_cons_self ..)
    have p1 : f c <+: f c ++ l.flatMap f := List.prefix_append ..
    have p2 : f d <+: f c ++ l.flatMap f := e ▸ List.prefix_append ..
    have ecd : c = d := by
      rcases Nat.le_total (f c).length (f d).length with q | q
      · exact h1 c hc d hd (List.isPrefixOf_iff_prefix.mpr (List.prefix_of_prefix_length_le p1 p2 q))
      · exact (h1 d hd c hc (List.isPrefixOf_iff_prefix.mpr (List.prefix_of_prefix_length_le p2 p1 q))).symm
    subst ecd
    rw [flat_inj h1 h0 (fun c hc => hl c (List.mem_cons_of_mem _ hc)) (fun c hc => hm c (List.mem_cons_of_mem _ hc)) (List.append_cancel_left e)]
theorem repr_inj {x y : Str} (hx : As x) (hy : As y) (h : reprText x = reprText y) : x = y := by
  have e : (reprText x).cps.toList = (reprText y).cps.toList := by rw [h]
  rw [repr_tl, repr_tl, List.cons.injEq] at e
  obtain ⟨e1, e2⟩ := e
  rw [← e1] at e2
  have e3 := List.append_cancel_right e2
  refine str_ext ?_
  rcases rq x with q | q <;> rw [q] at e3
  · exact flat_inj rc_pre39 (fun c hc => (rc_pos c hc).1) hx hy e3
  · exact flat_inj rc_pre34 (fun c hc => (rc_pos c hc).2) hx hy e3
theorem repr_nn {x : Str} : reprText x ≠ "None" := fun h => by
  have e : (reprText x).cps.toList = ("None" : Str).cps.toList := by rw [h]
  rw [repr_tl] at e
  have e2 : ("None" : Str).cps.toList = [78, 111, 110, 101] := by decide +kernel
  rw [e2, List.cons.injEq] at e
  rcases rq x with q | q <;> rw [q] at e <;> exact absurd e.1 (by decide)
/-! ### and numbers -/
theorem neg_tl (m : Nat) : (PySem.Str.ofString (toString (Int.negSucc m))).cps.toList = 45 :: (Nat.toDigits 10 (m + 1)).map Char.toNat := by
  rw [signs_ofString]
  show (("-" ++ Nat.repr (m + 1)).toList.map Char.toNat) = _
  rw [String.toList_append, List.map_append, Nat.toList_repr]
  rfl
theorem dig_ne {m : Nat} {c : Nat} {l : List Nat} (h : (Nat.toDigits 10 m).map Char.toNat = c :: l) : 48 ≤ c ∧ c ≤ 57 := by
  have hc : c ∈ (Nat.toDigits 10 m).map Char.toNat := h ▸ List.mem_cons_self ..
  obtain ⟨ch, hch,
      e⟩ := List.mem_map.mp hc
  have r := digit_range (Nat.isDigit_of_mem_toDigits
      (by decide) (by decide) hch)
  rw [e] at r
  exact r
theorem int_inj {a b : Int} (h : (PySem.Str.ofString (toString a)) = PySem.Str.ofString (toString b)) : a = b := by
  have e : (PySem.Str.ofString (toString a)).cps.toList = (PySem.Str.ofString (toString b)).cps.toList := by rw [h]
  cases a with
  | ofNat m =>
    cases b with
    | ofNat n =>
      have e1 : (Nat.toDigits 10 m).map Char.toNat = (Nat.toDigits 10 n).map Char.toNat := (PySem.W.KIN.signs_num m).symm.trans (e.trans (PySem.W.KIN.signs_num n))
      have e2 := PySem.W.KIN.val_back m
      rw [e1, PySem.W.KIN.val_back n] at e2
      rw [e2]
    | negSucc n =>
      have e1 : (Nat.toDigits 10 m).map Char.toNat = 45 :: _ := (PySem.W.KIN.signs_num m).symm.trans (e.trans (neg_tl n))
      exact absurd (dig_ne e1).1 (by decide)
  | negSucc m =>
    cases b with
    | ofNat n =>
      have e1 : (Nat.toDigits 10 n).map Char.toNat = 45 :: _ := (PySem.W.KIN.signs_num n).symm.trans (e.symm.trans (neg_tl m))
      exact absurd (dig_ne e1).1 (by decide)
    | negSucc n =>
      rw [neg_tl, neg_tl, List.cons.injEq] at e
      have e2 := PySem.W.KIN.val_back (m + 1)
      rw [e.2, PySem.W.KIN.val_back (n + 1)] at e2
      have : m = n := by omega
      rw [this]
theorem int_nn {a : Int} : (PySem.Str.ofString (toString a)) ≠ "None" := fun h => by
  have e : (PySem.Str.ofString (toString a)).cps.toList = ("None" : Str).cps.toList := by rw [h]
  have e2 : ("None" : Str).cps.toList = [78, 111, 110, 101] := by decide +kernel
  rw [e2] at e
  cases a with
  | ofNat m => exact absurd (dig_ne ((PySem.W.KIN.signs_num m).symm.trans e)).2 (by decide)
  | negSucc m => rw [neg_tl, List.cons.injEq] at e; exact absurd e.1 (by decide)
end DL
/-! DL, part P: methods that are called by keywords -/
namespace DL
open L2 PySem
open PySem.Spec PyProof.Rows
def uK (X : Cx) (kws : List Keyword) : TA := fun σ H Q => ∀ pos pins s, Inv X pins σ H s → wpAny (model X.prog X.w) X.A (evalAll ((backToKw pos (keywordEach kws X.env)).map (·.2))) (AP X pins σ Q) X.xe s
theorem pku {X : Cx} (kws : List Keyword) : PK X kws (uK X kws) := ⟨fun pos pins s σ H Q I h => h pos pins s I⟩
theorem toK {X : Cx} {σ : L2.St} {H : Hp} {kws : List Keyword} {t : TA} (h : PK X kws t) {Q} (q : t σ H Q) : uK X kws σ H Q := fun pos pins s I => h.run pos pins s σ H Q I q
def WK (X : Cx) (kws : List Keyword) (Γ : Sg) (O : Ow) (k : List D → Ow → Prop) : Prop := ∀ σ L H, Sl X.K L σ Γ → R X.K L O H → ∀ Q, FolA X.K L k Q → uK X kws σ H Q
section
variable {X : Cx} {Γ : Sg} {O : Ow} {k : KD} {ka : List D → Ow → Prop}
theorem wk_nil (h : ka [] O) : WK X [] Γ O ka := fun σ L H hs hr Q q => toK pk_nil (q _ _ _ _ _ h (.refl L) .nil hr)
theorem wk_cons {e : Expr} {kws : List Keyword} {nm : Option Str} {kpos : Pos} (h : WE X e Γ O fun x O1 => WK X kws Γ O1 fun ds O2 => ka (x :: ds) O2) : WK X (⟨nm, e, kpos⟩ :: kws) Γ O ka := fun σ L H hs hr Q q => by
  refine toK (pk_cons (pu e) (pku kws)) ?_
  refine h σ L H hs hr _ fun x dx O1 L1 H1 h1 e1 i1 r1 => ?_
  refine h1 σ L1 H1 (hs.mono e1) r1 _ fun vs ds O2 L2 H2 h2 e2 i2 r2 => ?_
  exact q _ _ _ _ _ h2 (e1.trans e2) (.cons (i1.mono e2) i2) r2
theorem run_gK {pins : List (Addr × Obj)} {σ : L2.St} {H : Hp} {s : Shared} {Q : VK} {us ws : List Value} {vs zs : List V} {j n : Nat} {f : Addr} {fd : FuncData} {ps ks : List Str} {sp : Sp} {g : List Value → List Value → List Value} {gV : List V → List V → List V}
    (G : FnG X.prog X.w X.K X.mg X.base CX0 j f fd ps sp) (hgd : X.A.guards = some []) (hr : Room j X.A) (hb : KBn X.K fd ps n ks g gV)
    (I : Inv X pins σ H s) (r : Vals vs us) (rz : Vals zs ws) (l1 : vs.length = n) (l2 : zs.length = ks.length) (h : sp (gV vs zs) H Q E0) : wpAny (model X.prog X.w) X.A (call (.ref f) us (ks.zip ws)) (EP X pins σ Q) X.xe s := by
  have b := hb.to s us ws I.kIn (by rw [← r.length, l1]) (by rw [← rz.length, l2])
  refine wpAny_call (codeAny_mono (G.go X.A X.stack s H ⟨us, ks.zip ws⟩ (g us ws) (gV vs zs) Q E0 hgd hr I.env0 b (hb.rel r rz) h) fun r s' hq => ?_)
  match r, hq with
  | .ok (.ret u), hq => exact I.after hq
  | .ok .next, hq => exact hq.elim
  | .ok .brk, hq => exact hq.elim
  | .ok .cont, hq => exact hq.elim
  | .error e, hq => exact hq.elim
/-- the same values, over data -/
def GOk (K : PySem.W.Frag) (gV : List V → List V → List V) (gD : List D → List D → List D) : Prop := ∀ (L : Lg) (vs : List V) (ds : List D) (zs : List V) (es : List D), IsL K L vs ds → IsL K L zs es → IsL K L (gV vs zs) (gD ds es)
structure Kmk (X : Cx) (C : Addr) (m : Str) (j : Nat) (S : SpD) (ks : List Str) (gD : List D → List D → List D) : Prop where
  ex : ∃ (f : Addr) (fd : FuncData) (ps : List Str) (g : List Value → List Value → List Value) (gV : List V → List V → List V), FnG X.prog X.w X.K X.mg X.base CX0 j f fd ps (spOf X.K S) ∧ Meth X.K C m f ∧ KBn X.K fd ps 1 ks g gV ∧ GOk X.K gV gD
  cl : Cls X.K C
theorem we_methK {C : Addr} {m : Str} {j : Nat} {S : SpD} {ks : List Str} {gD : List D → List D → List D} {o : Expr} {kws : List Keyword} {apos pos : Pos} {pl : Sem Bool} (F : Kmk X C m j S ks gD) (hgd : X.A.guards = some []) (hr : Room j X.A)
    (hall : (backToKw pos (keywordEach kws X.env)).all (·.1.isSome) = true) (hks : (backToKw pos (keywordEach kws X.env)).filterMap (·.1) = ks)
    (hpl : ((backTo pos (starEach [] X.env)).any (·.1) || (backToKw pos (keywordEach kws X.env)).any (·.1.isNone)) = false)
    (ht : eval (.Call (.Attribute o m apos) [] kws pos) X.env = (do
      let obj ← eval o X.env
      standAt apos.atName
      let (fn, head) ← holding [obj] (getMethod obj m pl)
      callWith pos fn head (backTo pos (starEach [] X.env)) (backToKw pos (keywordEach kws X.env))))
    (h : WE X o Γ O fun x O1 => ∃ fds, InD O1 x C fds ∧ fds.lookup m = none ∧ WK X kws Γ O1 fun ds O2 => ds.length = ks.length ∧ S (gD [x] ds) O2 k fun _ _ _ => False) : WE X (.Call (.Attribute o m apos) [] kws pos) Γ O k := fun σ L H hs hR Q q pins s I => by
  obtain ⟨f, fd, ps, g, gV, G, hm, hb, hG⟩ := F.ex
  refine PySem.W.methodCall_KW (pl := pl) (thn (h σ L H hs hR (fun v H1 => ∃ x O1 L1, (∃ fds, InD O1 x C fds ∧ fds.lookup m = none ∧ WK X kws Γ O1 fun ds O2 => ds.length = ks.length ∧ S (gD [x] ds) O2 k fun _ _ _ => False) ∧ L.le L1 ∧ Is X.K L1 v x ∧ R X.K L1 O1 H1) (fun v x O1 L1 H1 a b c d => ⟨x, O1, L1, a, b, c, d⟩) pins s I)
    fun u s1 ⟨v, H1, I1, rv, x, O1, L1, ⟨fds, hi, hl, h2⟩, le1, is1, r1⟩ => ?_) ht
  obtain ⟨a, dx, fs, rfl, g1, g2, g3⟩ := inD_of r1 hi is1
  obtain rfl : u = Value.ref a := rv
  refine getmeth_ok I1 g1 F.cl hm ((lookup_is g2 g3).2 hl) ?_
  refine PySem.W.callWith_KW0 (first := [.ref a]) (h₀ := X.base) I1.ok.mod.kin hm.kp hall (thn (h2 σ L1 H1 (hs.mono le1) r1 (fun vs H2 => ∃ ds O2 L2, (ds.length = ks.length ∧ S (gD [x] ds) O2 k fun _ _ _ => False) ∧ L1.le L2 ∧ IsL X.K L2 vs ds ∧ R X.K L2 O2 H2) (fun vs ds O2 L2 H2 a b c d => ⟨ds, O2, L2, a, b, c, d⟩) pos pins s1 I1)
    fun us s2 ⟨vs, H2, I2, rvs, ds, O2, L2, ⟨h3, h4⟩, le2, is2, r2⟩ => ⟨I2.kIn, ?_⟩) hpl
  rw [hks]
  exact run_gK (us := [.ref a]) (vs := [.ref a]) G hgd hr hb I2 (.cons rfl .nil) rvs rfl (by rw [is2.length]; exact h3) (sp_of h4 (hG L2 _ _ _ _ (.cons (is1.mono le2) .nil) is2) r2 (q.le (le1.trans le2)))
end
/-- what the dict of keyword defaults holds -/
inductive KwL (K : PySem.W.Frag) (Dk : Addr) : List (Str × V) → Prop
  | nil : KwL K Dk []
  | cons {x : Str} {v : V} {u : Value} {l : List (Str × V)} (a : PySem.W.nsIn K Dk x = some (some u)) (r : RelV v u) (t : KwL K Dk l) : KwL K Dk ((x, v) :: l)
theorem KwL.all {K : PySem.W.Frag} {Dk : Addr} : ∀ {l : List (Str × V)}, KwL K Dk l → ∀ q ∈ l, ∃ u, PySem.W.nsIn K Dk q.1 = some (some u) ∧ RelV q.2 u
  | _, .nil, q, h => by cases h
  | _, .cons a r t, q, h => by
    rcases List.mem_cons.mp
        h with e | e
    · subst e; exact ⟨_, a, r⟩
    · exact t.all q e
/-- a method with keyword-only parameters, where it stands -/
inductive Dnk (K : PySem.W.Frag) (C : Addr) (m qual : Str) (st : Stmt) (kws : List (Str × V)) : Prop
  | mk {f Dk : Addr} {oc : Value} {od an : Option Addr} {osl : Array (Option Value)} {doc pm cdv ct : Value} (a : PySem.W.findIn K (.ref C) m = some (some (.ref f))) (i : PySem.W.isFn K (.ref f) = true)
      (l : K.lookup f = some ⟨oc, od, .func (PySem.W.fnOf m qual (defArgs st) (defBody st) (defScope st) .none (.ref Dk) doc pm an cdv ct), osl⟩) (c : PySem.W.codeIn K cdv qual = true) (k : PySem.W.keepIn K (.ref f) = true) (w : KwL K Dk kws) : Dnk K C m qual st kws
section
variable {base : Heap} {mg : Str → Option Value} {K : PySem.W.Frag} {w : World} {P : Program}
structure Pkk (P : Program) (w : World) (K : PySem.W.Frag) (mg : Str → Option Value) (base : Heap) (C : Addr) (m : Str) (j : Nat) (S : SpD) (ks : List Str) (gD : List D → List D → List D) : Prop where
  ex : ∃ (f : Addr) (fd : FuncData) (ps : List Str) (g : List Value → List Value → List Value) (gV : List V → List V → List V), FnG P w K mg base CX0 j f fd ps (spOf K S) ∧ Meth K C m f ∧ KBn K fd ps 1 ks g gV ∧ GOk K gV gD
  cl : Cls K C
theorem Pkk.kmk {C : Addr} {m : Str} {j : Nat} {S : SpD} {ks : List Str} {gD : List D → List D → List D} (F : Pkk P w K mg base C m j S ks gD) {X : Cx} (e1 : X.prog = P) (e2 : X.w = w) (e3 : X.K = K) (e4 : X.mg = mg) (e5 : X.base = base) : Kmk X C m j S ks gD := by
  subst e1 e2 e3 e4 e5
  exact ⟨F.ex, F.cl⟩
/-- ks are given, ms lack; how all are put together: g self those of ms those of ks -/
theorem Pkk.of {C : Addr} {m qual : Str} {st : Stmt} {N ps : List Str} {j : Nat} {S : SpD} {kws : List (Str × V)} (T : Dnk K C m qual st kws) (c : Cls K C) (Sc : FnScope N ps (defScope st)) (len : ∀ ds O k kx, S ds O k kx → ds.length = ps.length)
    (h : ∀ (f : Addr) (cdv : Value) (A : Around) (outer : List Env) (s : Shared) (H : Hp) (E : XK), A.guards = some [] → Room j (A.deeper (envOfC qual (defScope st) s.heap.objs.size f cdv)) → ∀ ds O k kx, S ds O k kx →
      WSs (Bo P w K mg base N qual st f cdv A outer s H E) (defBody st) (gst N.length ds) O { nx := fun _ O' => Ret k .non O', rt := Ret k })
    (ks : List Str) (ms : List (Str × V)) (es : List D) (g : {α : Type} → List α → List α → List α → List α) (hk : kws ≠ []) (hms : ∀ q ∈ ms, q ∈ kws) (hes : ∀ L, IsL K L (ms.map (·.2)) es)
    (hrel : ∀ {vs mz zs : List V} {us mv ws : List Value},
        Vals vs us → Vals mz mv → Vals zs ws → Vals (g vs mz zs) (g us mv ws))
    (hD : ∀ (L : Lg) (vs : List V) (ds : List D) (zs : List V) (fs : List D), IsL K L vs ds → IsL K L zs fs → IsL K L (g vs (ms.map (·.2)) zs) (g ds es fs))
    (hb : ∀ (Dk : Addr) (doc pm : Value) (an : Option Addr) (cdv ct : Value) (us mv ws : List Value), us.length = 1 → mv.length = ms.length → ws.length = ks.length →
      KwChain Dk ((ms.map (·.1)).zip mv) (bindArgs (PySem.W.fnOf m qual (defArgs st) (defBody st) (defScope st) .none (.ref Dk) doc pm an cdv ct) ⟨us, ks.zip ws⟩) (ps.zip (g us mv ws))) : Pkk P w K mg base C m (j + 1) S ks (fun ds fs => g ds es fs) := by
  cases T with
  | mk a i l c2 kp wl =>
    obtain ⟨mv, hl, rk, hks⟩ := kwd_vals (ms := ms) fun q hm => wl.all q (hms q hm)
    have hG : GOk K (fun vs zs => g vs (ms.map fun q => q.2) zs) (fun ds fs => g ds es fs) := hD
    have hB : ∀ doc pm an cdv ct, KBn K (PySem.W.fnOf m qual (defArgs st) (defBody st) (defScope st) .none (.ref _) doc pm an cdv ct) ps 1 ks (fun us ws => g us mv ws) (fun vs zs => g vs (ms.map fun q => q.2) zs) := fun doc pm an cdv ct =>
      ⟨fun s us ws X l1 l2 => L2.BindsTo.of_looks fun M => KwChain.looks X hks (hb _ doc pm an cdv ct us mv ws l1 hl l2), fun r1 r2 => hrel r1 rk r2⟩
    exact ⟨⟨_, _, ps, _, _, fn_body (funx_mk l c2) Sc len (h _), ⟨a, i, kp⟩, hB _ _ _ _ _, hG⟩, c⟩
end
/-! ### what kind of goal it is -/
section
variable {X : Cx} {Γ : Sg} {O : Ow} {k : KD} {kt : Bool → Ow → Prop} {ka : List D → Ow → Prop} {kn : Sg → Ow → Prop} {ko : Ow → Prop} {De : DE} {x y d : D} {ds : List D} {e : Expr} {es : List Expr} {st : Stmt} {sts : List Stmt} {f : Value} {id : String}
theorem gWE (h : WE X e Γ O k) : WE X e Γ O k := h
theorem gWT (h : WT X e Γ O kt) : WT X e Γ O kt := h
theorem gWW (h : WW X e Γ O kt) : WW X e Γ O kt := h
theorem gWA (h : WA X es Γ O ka) : WA X es Γ O ka := h
theorem gWS (h : WS X st Γ O De) : WS X st Γ O De := h
theorem gWSs (h : WSs X sts Γ O De) : WSs X sts Γ O De := h
theorem gWO {o : Value → Value → Sem Value} (h : WO X o x y O k) : WO X o x y O k := h
theorem gWU {o : Value → Sem Value} (h : WU X o x O k) : WU X o x O k := h
theorem gWC (h : WC X f ds O k) : WC X f ds O k := h
theorem gWI (h : WI X x y O k) : WI X x y O k := h
theorem gWM (h : WM X id x ds O k) : WM X id x ds O k := h
theorem gWG (h : WG X e d Γ O kn) : WG X e d Γ O kn := h
theorem gWGs (h : WGs X es ds Γ O kn) : WGs X es ds Γ O kn := h
theorem gWP {p : Option Expr} {kp : Option Int → Ow → Prop} (h : WP X p Γ O kp) : WP X p Γ O kp := h
theorem gWSl {lo hi : Option Int} (h : WSl X x lo hi O k) : WSl X x lo hi O k := h
theorem gWPs {ks : List (Option Expr)} {kp : List (D × D) → Ow → Prop} (h : WPs X ks es Γ O kp) : WPs X ks es Γ O kp := h
theorem gWSet (h : WSet X x y d O ko) : WSet X x y d O ko := h
theorem gLoopD {tg : Expr} (h : LoopD X tg sts De ds Γ O) : LoopD X tg sts De ds Γ O := h
end
end DL
/-! DL, part Q: raised exceptions over data -/
namespace DL
open L2 PySem
open PySem.Spec PyProof.Rows
/-- class, its attributes, the slots, what is owned -/
abbrev KG := Addr → List (Str × D) → Sg → Ow → Prop
/-- exceptions that the context takes, where all that was known at L0 is still known -/
structure Tx (X : Cx) (L0 : Lg) (kg : KG) : Prop where
  ex : ∃ W : WX, Takes X W ∧ ∀ (C d : Addr) (fs : List (Str × V)) (fds : List (Str × D)) (Γ : Sg) (O : Ow) (σ : L2.St) (L : Lg) (H : Hp), kg C fds Γ O → L0.le L → Sl X.K L σ Γ → H d = some (.xd fs) →
    fs.map (·.1) = fds.map (·.1) → IsL X.K L (fs.map (·.2)) (fds.map (·.2)) → R X.K L O H → W (.ref C) (some d) σ H
def WEx (X : Cx) (L0 : Lg) (e : Expr) (Γ : Sg) (O : Ow) (k : KD) : Prop := ∀ σ L H, L0.le L → Sl X.K L σ Γ → R X.K L O H → ∀ Q, Fol X.K L k Q → uE X e σ H Q
def WSx (X : Cx) (L0 : Lg) (st : Stmt) (Γ : Sg) (O : Ow) (De : DE) : Prop := ∀ σ L H, L0.le L → Sl X.K L σ Γ → R X.K L O H → ∀ E, FolS X.K L De E → uS X st E σ H
def WSsx (X : Cx) (L0 : Lg) (st : List Stmt) (Γ : Sg) (O : Ow) (De : DE) : Prop := ∀ σ L H, L0.le L → Sl X.K L σ Γ → R X.K L O H → ∀ E, FolS X.K L De E → uSs X st E σ H
section
variable {X : Cx} {L0 : Lg} {kg : KG} {Γ : Sg} {O : Ow} {k : KD} {De : DE} {st : Stmt} {rest : List Stmt} {e : Expr} {es : List Expr} {pos pos' : Pos}
theorem we_x (h : WE X e Γ O k) : WEx X L0 e Γ O k := fun σ L H _ => h σ L H
theorem ws_x (h : WS X st Γ O De) : WSx X L0 st Γ O De := fun σ L H _ => h σ L H
theorem wss_x (h : WSs X rest Γ O De) : WSsx X L0 rest Γ O De := fun σ L H _ => h σ L H
theorem xs_nil (h : De.nx Γ O) : WSsx X L0 [] Γ O De := wss_x (ws_nil h)
theorem xs_cons (h : WSx X L0 st Γ O { De with nx := fun Γ' O' => WSsx X L0 rest Γ' O' De }) : WSsx X L0 (st :: rest) Γ O De := fun σ L H l0 hs hr E q => by
  refine toSs (pss_cons (psu st) (pssu rest)) ?_
  exact h σ L H l0 hs hr _ (q.nxt fun Γ' O' σ' L' H' h' e' hs' hr' => h' σ' L' H' (l0.trans e') hs' hr' E (q.le e'))
theorem xs_one (h : WSx X L0 st Γ O De) : WSsx X L0 [st] Γ O De := fun σ L H l0 hs hr E q => toSs (pss_one (psu st)) (h σ L H l0 hs hr E q)
theorem xs_ret (h : WEx X L0 e Γ O De.rt) : WSx X L0 (.Return (some e) pos) Γ O De := fun σ L H l0 hs hr E q => toS (ps_ret (pu e)) (h σ L H l0 hs hr _ q.rt)
theorem xs_set {x : Str} {i : Nat} (hx : Vs X x i) (hw : swapsWith e (some (.Name x pos')) pos.line X.env = pure false) (h : WEx X L0 e Γ O fun d O1 => De.nx (Γ.set i (some d)) O1) : WSx X L0 (.Assign [.Name x pos'] e pos) Γ O De := fun σ L H l0 hs hr E q => by
  refine toS (ps_set (i := i) hx.nd hx.hN hx.hl (pu e) hw hx.hf) ?_
  exact h σ L H l0 hs hr _ fun v d O1 L1 H1 h1 e1 i1 r1 => q.nx _ _ _ _ _ h1 e1 ((hs.mono e1).set i1 i) r1
theorem xs_if {c : Expr} {a b : List Stmt} (h : WT X c Γ O fun t O1 => if t = true then WSsx X L0 a Γ O1 De else WSsx X L0 b Γ O1 De) : WSx X L0 (.If c a b pos) Γ O De := fun σ L H l0 hs hr E q => by
  refine toS (ps_if (ptu c) (pssu a) (pssu b)) ?_
  refine h σ L H hs hr _ fun t O1 L1 H1 h1 e1 r1 => ?_
  cases t with
  | true =>
    have h2 : WSsx X L0 a Γ O1 De := h1
    exact iteT (h2 σ L1 H1 (l0.trans e1) (hs.mono e1) r1 E (q.le e1))
  | false =>
    have h2 : WSsx X L0 b Γ O1 De := h1
    exact iteF (h2 σ L1 H1 (l0.trans e1) (hs.mono e1) r1 E (q.le e1))
/-! ### own exceptions with one attribute -/
/-- what __init__(self, f) does -/
def spXc (C : Addr) (f : Str) : Sp := fun vs H Q _ => ∃ (a : Addr) (y : V), vs = [.ref a, y] ∧ H a = some (exo a C none) ∧ ∀ dx, H dx = none → dx ≠ a → Q .non (upd (upd H dx (exd dx [(f, y)])) a (exo a C (some dx)))
/-- the exception class x at C, whose __init__ keeps one argument in f -/
structure Kx (X : Cx) (x : Str) (C : Addr) (f : Str) (j : Nat) : Prop where
  cl : OexC X.K C
  ex : ∃ (fI : Addr) (fd : FuncData) (ps : List Str), PySem.W.findIn X.K (.ref C) "__init__" = some (some (.ref fI)) ∧ PySem.W.typeIn X.K (.ref fI) = some (.type "function") ∧ FnOk X.prog X.w X.K X.mg X.base CX0 j fI fd ps (spXc C f) ∧ Binds X.K fd ps []
  mg : X.mg x = some (.ref C)
  gl : Gl X x
  db : (x == ("__debug__" : Str)) = false
theorem xs_raise {x f : Str} {C : Addr} {j : Nat} {p cpos : Pos} (hc : X.calm = true) (tx : Tx X L0 kg) (F : Kx X x C f j) (hr : Room (j + 1) X.A) (he : starEach [e] X.env = (false, eval e X.env) :: starEach [] X.env) (hpl : (backTo cpos (starEach [] X.env)).any (·.1) = false)
    (h : WE X e Γ O fun d O1 => kg C [(f, d)] Γ O1) : WSx X L0 (.Raise (some (.Call (.Name x p) [e] [] cpos)) none pos) Γ O De := fun σ L H l0 hs hR E q => by
  obtain ⟨W, tk, tw⟩ := tx.ex
  obtain ⟨fI, fd, ps, iC, tI, F1, hb⟩ := F.ex
  refine toS (ps_raise hc tk (pmk_oex (dvs := []) F.cl iC tI F1 hr hb .nil pass0 F.gl F.mg (pau [e]) F.db he hpl)) ?_
  have ha : WA X [e] Γ O fun ds O1 => ∃ d, ds = [d] ∧ kg C [(f, d)] Γ O1 := wa_cons he (h.imp fun d O1 z => wa_nil ⟨d, rfl, z⟩)
  refine ha σ L H hs hR _ fun vs ds O1 L1 H1 h1 e1 i1 r1 => ?_
  obtain ⟨d, rfl, hk⟩ := h1
  obtain ⟨v, rfl, iv⟩ := i1.one'
  refine ⟨by show 1 ≤ 1000; decide, fun a ha1 => ⟨a, v, rfl, upd_same, fun dx hdx hne => ?_⟩⟩
  have h1dx : H1 dx = none := by rw [upd_ne hne] at hdx; exact hdx
  refine ⟨rfl, dx, [(f, v)], upd_same, ?_, h1dx, ?_⟩
  · rw [upd_ne hne]; exact upd_same
  have eH : upd (L2.del (upd (upd (upd H1 a (exo a C none)) dx (exd dx [(f, v)])) a (exo a C (some dx))) a) dx (.xd [(f, v)]) = upd H1 dx (.xd [(f, v)]) := by
    funext b
    by_cases c1 : b = dx
    · subst c1; rw [upd_same, upd_same]
    · rw [upd_ne c1, upd_ne c1]
      by_cases c2 : b = a
      · subst c2
        rw [ha1]
        simp [L2.del]
      · have e3 : L2.del (upd (upd (upd H1 a (exo a C none)) dx (exd dx [(f, v)])) a (exo a C (some dx))) a b = upd (upd (upd H1 a (exo a C none)) dx (exd dx [(f, v)])) a (exo a C (some dx)) b := by
          simp [L2.del, c2]
        rw [e3, upd_ne c2, upd_ne c1, upd_ne c2]
  rw [eH]
  exact tw C dx [(f, v)] [(f, d)] Γ O1 σ L1 _ hk (l0.trans e1) (hs.mono e1) upd_same rfl (.cons iv .nil) (r1.aside h1dx)
end
/-! ### defs and classes that raise -/
section
variable {base : Heap} {mg : Str → Option Value} {K : PySem.W.Frag} {w : World} {P : Program}
/-- the context of the body of a def that may raise -/
abbrev Bx (P : Program) (w : World) (K : PySem.W.Frag) (mg : Str → Option Value) (base : Heap) (N : List Str) (qual : Str) (st : Stmt) (f : Addr) (cdv : Value) (A : Around) (outer : List Env) (s : Shared) (H : Hp) (E : XK) : Cx :=
  cxOf (L2.CX P w) P w K mg base N qual (defScope st) f cdv A outer s H E
theorem fn_bodyX {x qual : Str} {st : Stmt} {f : Addr} {fd : FuncData} {N ps : List Str} {j : Nat} {S : SpD} (F : FunX K x qual st f fd) (Sc : FnScope N ps (defScope st)) (len : ∀ ds O k kx, S ds O k kx → ds.length = ps.length)
    (h : ∀ (cdv : Value) (A : Around) (outer : List Env) (s : Shared) (H : Hp) (E : XK), A.guards = some [] → Room j (A.deeper (envOfC qual (defScope st) s.heap.objs.size f cdv)) → ∀ L0 ds O k kx, S ds O k kx →
      Tx (Bx P w K mg base N qual st f cdv A outer s H E) L0 (fun C fds _ O' => kx C fds O') →
      WSsx (Bx P w K mg base N qual st f cdv A outer s H E) L0 (defBody st) (gst N.length ds) O { nx := fun _ O' => Ret k .non O', rt := Ret k }) : FnG P w K mg base (L2.CX P w) (j + 1) f fd ps (spOf K S) := by
  refine FnG.body F Sc (fun vs H Q E ⟨ds, L, O, k, kx, hi, _, hs, _⟩ => hi.length.trans (len ds O k kx hs)) fun cdv A outer s H vs Q E hg hr hsp => ?_
  obtain ⟨ds, L, O, k, kx, hi, hR, hS, hk, hx⟩ := hsp
  have tx : Tx (Bx P w K mg base N qual st f cdv A outer s H E) L (fun C fds _ O' => kx C fds O') :=
    ⟨⟨fun cls d _ H => E cls d H, takes_of rfl rfl rfl rfl, fun C d fs fds Γ O' σ L' H' a le _ b c e r => hx C d fs fds O' L' H' a le b c e r⟩⟩
  have z := h cdv A outer s H E hg hr L ds O k kx hS tx (start N vs) L H (.refl L) (sl_start hi) hR { nx := fun _ H' => Q .non H', rt := Q }
    ⟨fun Γ' O' σ' L' H' a le _ r => fol_ret hk .non .non O' L' H' a le .non r, fol_ret hk, fun _ _ _ _ _ a => a.elim, fun _ _ _ _ _ a => a.elim⟩
  exact fun pins s' I => z pins s' I
/-- a class whose __init__ may raise -/
structure PcX (P : Program) (w : World) (K : PySem.W.Frag) (mg : Str → Option Value) (base : Heap) (x : Str) (C : Addr) (j : Nat) (S : SpD) : Prop where
  ex : ∃ (f : Addr) (fd : FuncData) (ps : List Str), FnG P w K mg base (L2.CX P w) j f fd ps (spOf K S) ∧ Mk K C f ∧ Binds K fd ps []
  mg : mg x = some (.ref C)
theorem PcX.of {x : Str} {C : Addr} {qual : Str} {st : Stmt} {N ps : List Str} {j : Nat} {S : SpD} (T : Di K C qual st ps) (hx : mg x = some (.ref C)) (Sc : FnScope N ps (defScope st)) (len : ∀ ds O k kx, S ds O k kx → ds.length = ps.length)
    (h : ∀ (f : Addr) (cdv : Value) (A : Around) (outer : List Env) (s : Shared) (H : Hp) (E : XK), A.guards = some [] → Room j (A.deeper (envOfC qual (defScope st) s.heap.objs.size f cdv)) → ∀ L0 ds O k kx, S ds O k kx →
      Tx (Bx P w K mg base N qual st f cdv A outer s H E) L0 (fun C fds _ O' => kx C fds O') →
      WSsx (Bx P w K mg base N qual st f cdv A outer s H E) L0 (defBody st) (gst N.length ds) O { nx := fun _ O' => Ret k .non O', rt := Ret k }) : PcX P w K mg base x C (j + 1) S := by
  obtain ⟨f, fd, hm, F, hb⟩ := T.ex
  exact ⟨⟨f, fd, ps, fn_bodyX F Sc len (h f), hm, hb⟩, hx⟩
/-- a def that may raise -/
structure PmX (P : Program) (w : World) (K : PySem.W.Frag) (mg : Str → Option Value) (base : Heap) (x : Str) (j : Nat) (S : SpD) : Prop where
  ex : ∃ (f : Addr) (fd : FuncData) (ps : List Str), FnG P w K mg base (L2.CX P w) j f fd ps (spOf K S) ∧ mg x = some (.ref f) ∧ PySem.W.keepIn K (.ref f) = true ∧ Binds K fd ps []
theorem PmX.of {x : Str} {st : Stmt} {N ps : List Str} {j : Nat} {S : SpD} (T : Df K mg x st ps) (Sc : FnScope N ps (defScope st)) (len : ∀ ds O k kx, S ds O k kx → ds.length = ps.length)
    (h : ∀ (f : Addr) (cdv : Value) (A : Around) (outer : List Env) (s : Shared) (H : Hp) (E : XK), A.guards = some [] → Room j (A.deeper (envOfC x (defScope st) s.heap.objs.size f cdv)) → ∀ L0 ds O k kx, S ds O k kx →
      Tx (Bx P w K mg base N x st f cdv A outer s H E) L0 (fun C fds _ O' => kx C fds O') →
      WSsx (Bx P w K mg base N x st f cdv A outer s H E) L0 (defBody st) (gst N.length ds) O { nx := fun _ O' => Ret k .non O', rt := Ret k }) : PmX P w K mg base x (j + 1) S := by
  obtain ⟨f, fd, hm, F, hb, kp⟩ := T.ex
  exact ⟨f, fd, ps, fn_bodyX F Sc len (h f), hm, kp, hb⟩
end
section
variable {X : Cx} {L0 : Lg} {kg : KG} {Γ : Sg} {O : Ow} {k : KD} {De : DE} {e : Expr} {es : List Expr}
theorem fol_fz {K : PySem.W.Frag} {L : Lg} {Q : VK} (q : Fol K L k Q) : Fol K L (Fz k) Q := fun v d O' L' H' ⟨p, od, hd, ho, hk⟩ le i r => by
  subst hd
  obtain ⟨L2, le2, is, r2⟩ := r.freeze ho
  obtain rfl := i.own'
  exact q _ _ _ _ _ hk (le.trans le2) is r2
/-- the class at C, its __init__ may raise -/
structure KcX (X : Cx) (x : Str) (C : Addr) (j : Nat) (S : SpD) : Prop where
  ex : ∃ (f : Addr) (fd : FuncData) (ps : List Str), FnG X.prog X.w X.K X.mg X.base (L2.CX X.prog X.w) j f fd ps (spOf X.K S) ∧ Mk X.K C f ∧ Binds X.K fd ps []
  mg : X.mg x = some (.ref C)
  gl : Gl X x
  db : (x == ("__debug__" : Str)) = false
theorem PcX.kc {P : Program} {w : World} {K : PySem.W.Frag} {mg : Str → Option Value} {base : Heap} {x : Str} {C : Addr} {j : Nat} {S : SpD} (F : PcX P w K mg base x C j S) {X : Cx} (e1 : X.prog = P) (e2 : X.w = w) (e3 : X.K = K) (e4 : X.mg = mg) (e5 : X.base = base) (gl : Gl X x) (db : (x == ("__debug__" : Str)) = false) : KcX X x C j S := by
  subst e1 e2 e3 e4 e5
  exact ⟨F.ex, F.mg, gl, db⟩
theorem we_makeX {x : Str} {C : Addr} {j : Nat} {S : SpD} {p pos : Pos} (F : KcX X x C j S) (tx : Tx X L0 kg) (hgd : X.A.guards = some []) (hr : Room (j + 1) X.A) (he : starEach (e :: es) X.env = (false, eval e X.env) :: starEach es X.env) (hpl : (backTo pos (starEach es X.env)).any (·.1) = false)
    (h : WA X (e :: es) Γ O fun ds O1 => ∀ p, O1 p = none → S (.own p :: ds) (put O1 p (.ins C [])) (fun d O2 => d = .non ∧ Fz k (.own p) O2) fun Ce fds O2 => ∃ O3, Sub O3 O2 ∧ kg Ce fds Γ O3) : WEx X L0 (.Call (.Name x p) (e :: es) [] pos) Γ O k := fun σ L H l0 hs hR Q q0 pins s I => by
  have q := fol_fz q0
  obtain ⟨W, tk, tw⟩ := tx.ex
  obtain ⟨f, fd, ps, G, M, hb⟩ := F.ex
  refine wpAny_Call_Name_kw (ld_glob I F.gl F.mg ?_ F.db)
  refine PySem.W.callWith_K (h₀ := X.base) I.ok.mod.kin M.kp (thn (h σ L H hs hR (fun vs H1 => ∃ ds O1 L1, (∀ p, O1 p = none → S (.own p :: ds) (put O1 p (.ins C [])) (fun d O2 => d = .non ∧ Fz k (.own p) O2) fun Ce fds O2 => ∃ O3, Sub O3 O2 ∧ kg Ce fds Γ O3) ∧ L.le L1 ∧ IsL X.K L1 vs ds ∧ R X.K L1 O1 H1) (fun vs ds O1 L1 H1 a b c d => ⟨ds, O1, L1, a, b, c, d⟩) pos pins s I)
    fun us s1 ⟨vs, H1, I1, rv, ds, O1, L1, h1, le1, is1, r1⟩ => ⟨I1.kIn, ?_⟩) he hpl
  have n1 : H1 (s1.heap.objs.size + 1) = none := I1.hok.fresh (Nat.le_succ _)
  have n2 : H1 s1.heap.objs.size = none := I1.hok.fresh (Nat.le_refl _)
  have ne : s1.heap.objs.size + 1 ≠ s1.heap.objs.size := Nat.succ_ne_self _
  have I2 := Inv.made (C := C) I1
  have ra := r1.aside (o := .own (s1.heap.objs.size + 1)) n2
  have n3 : upd H1 s1.heap.objs.size (.own (s1.heap.objs.size + 1)) (s1.heap.objs.size + 1) = none := by rw [upd_ne ne]; exact n1
  have rb := ra.newOwn (p := s1.heap.objs.size + 1) (o := .ins C s1.heap.objs.size []) (od := .ins C []) n3 ⟨_, [], upd_same, rfl, .nil⟩
  have sp : spOf X.K S (V.ref (s1.heap.objs.size + 1) :: vs) _ (fun v H2 => v = .non ∧ Q (.ref (s1.heap.objs.size + 1)) H2) (fun cls d H => W cls d σ H) :=
    ⟨_, L1, _, _, _, .cons (.own (s1.heap.objs.size + 1)) is1, rb, h1 _ (ra.free n3).2.1, fun v d O2 L2 H2 ⟨hd, hk⟩ le2 i2 r2 => by
      subst hd
      exact ⟨i2.non', q _ _ _ _ _ hk (le1.trans le2) (.own _) r2⟩, fun Ce d fs fds O2 L2 H2 ⟨O3, sub, hk⟩ le2 a b c r2 =>
      tw Ce d fs fds Γ O3 σ L2 H2 hk (l0.trans (le1.trans le2)) (hs.mono (le1.trans le2)) a b c (r2.sub sub)⟩
  have r2 : Vals (V.ref (s1.heap.objs.size + 1) :: vs) (Value.ref (s1.heap.objs.size + 1) :: us) := .cons rfl rv
  have hl : (Value.ref (s1.heap.objs.size + 1) :: us ++ []).length = ps.length := by
    rw [List.append_nil, ← r2.length]; exact G.ln _ _ _ _ sp
  refine wpAny_call (make_map (f := f) I1.kIn M.makes M.init (beq_iff_eq.mp M.fn) (codeAny_mono (G.go _ X.stack _ _ ⟨Value.ref (s1.heap.objs.size + 1) :: us, []⟩ (Value.ref (s1.heap.objs.size + 1) :: us ++ []) _ _ _ (make_guards hgd) (hr.make C us []) (I2.env0.make C us []) (hb _ _ I2.kIn hl) (by rw [List.append_nil]; exact r2) sp) fun r s' hq => ?_))
  match r, hq with
  | .ok (.ret u), hq =>
    obtain ⟨v, H', I3, rv', ev, q3⟩ := I2.after hq
    subst ev
    exact ⟨rv', ⟨V.ref (s1.heap.objs.size + 1), H', I3, rfl, q3⟩⟩
  | .ok .next, hq => exact hq.elim
  | .ok .brk, hq => exact hq.elim
  | .ok .cont, hq => exact hq.elim
  | .error e, hq => exact tk _ _ (XE.of_call I2 (fun _ _ _ h => h) hq)
end
/-! ### what is caught -/
theorem R.addXd {K : PySem.W.Frag} {L : Lg} {O : Ow} {H : Hp} {dd : Addr} {fs : List (Str × V)} (r : R K L O H) (h : H dd = some (.xd fs)) : ∃ L' : Lg, L.le L' ∧ L'.hp dd = some (.xd fs) ∧ R K L' O H := by
  cases q : L.hp dd with
  | some u =>
    have e := r.hp _ _ q
    rw [h] at e
    cases e
    exact ⟨L, .refl L, q, r⟩
  | none =>
    refine ⟨L.add dd (.xd fs), Lg.le_add q, ?_, fun a u e => ?_, fun a k z => ?_, fun a od e => ?_⟩
    · show (L.add dd (.xd fs)).hp dd = _
      simp [Lg.add, upd_same]
    · by_cases c : a = dd
      · subst c
        simp [Lg.add, upd_same] at e
        rw [h, e]
      · have e2 : L.hp a = some u := by simpa [Lg.add, upd_ne c] using e
        exact r.hp _ _ e2
    · obtain ⟨h1, h2, h3⟩ := r.bx a k z
      have c : a ≠ dd := fun q => by
        rw [q, h] at h3
        cases k with
        | three => obtain ⟨_, _, _, e⟩ := h3; cases e
        | nums => obtain ⟨_, _, _, e⟩ := h3; cases e
        | pair b => obtain ⟨_, _, e⟩ := h3; cases e
      exact ⟨by simpa [Lg.add, upd_ne c] using h1, h2, h3⟩
    · obtain ⟨h1, h2⟩ := r.ow a od e
      have c : a ≠ dd := fun q => by
        subst q
        cases od with
        | lst ds => obtain ⟨_, z, _⟩ := h2; rw [h] at z; cases z
        | dic ds => obtain ⟨_, z, _⟩ := h2; rw [h] at z; cases z
        | ins C ds => obtain ⟨_, _, z, _⟩ := h2; rw [h] at z; cases z
        | tab q => obtain ⟨_, z, _⟩ := h2; rw [h] at z; cases z
        | xcp C d =>
          have z : H a = some (XO C d a) := h2
          rw [h] at z
          have z2 : HO.xd fs = HO.ext _ := Option.some.inj z
          cases z2
      exact ⟨by simpa [Lg.add, upd_ne c] using h1, h2.mono (Lg.le_add q) rfl⟩
theorem Sl.setN {K : PySem.W.Frag} {L : Lg} {σ : L2.St} {Γ : Sg} (h : Sl K L σ Γ) (i : Nat) : Sl K L (σ.set i none) (Γ.set i none) := by
  refine ⟨by rw [List.length_set, List.length_set]; exact h.len, fun j e z => ?_⟩
  by_cases c : i = j
  · subst c
    by_cases hl : i < Γ.length
    · rw [List.getElem?_set_self hl] at z; cases z
    · rw [List.getElem?_eq_none (by rw [List.length_set]; omega)] at z; cases z
  · rw [List.getElem?_set_ne c] at z ⊢
    exact h.at_ j e z
section
variable {X : Cx} {L0 : Lg} {Γ : Sg} {O : Ow} {k : KD} {De : DE}
/-- the ends behind an except suite: the name goes -/
def DE.gone (De : DE) (i : Nat) : DE := { nx := fun Γ2 O2 => De.nx (Γ2.set i none) O2, rt := De.rt, bk := fun Γ2 O2 => De.bk (Γ2.set i none) O2, ct := fun Γ2 O2 => De.ct (Γ2.set i none) O2 }
theorem fol_gone {K : PySem.W.Frag} {L : Lg} {E : Ends} (q : FolS K L De E) (i : Nat) : FolS K L (De.gone i) { nx := fun σ' H' => E.nx (σ'.set i none) H', rt := E.rt, bk := fun σ' H' => E.bk (σ'.set i none) H', ct := fun σ' H' => E.ct (σ'.set i none) H' } :=
  ⟨fun Γ2 O2 σ2 L2 H2 a le s r => q.nx _ _ _ _ _ a le (s.setN i) r, q.rt, fun Γ2 O2 σ2 L2 H2 a le s r => q.bk _ _ _ _ _ a le (s.setN i) r, fun Γ2 O2 σ2 L2 H2 a le s r => q.ct _ _ _ _ _ a le (s.setN i) r⟩
/-- try: body / except x as n: suite; kg: what the body may let out, all of it caught -/
theorem ws_tryAs {x n : Str} {c : Value} {i : Nat} {body suite : List Stmt} {b₀ : Stmt} {np pos pos' : Pos} (kg : KG) (hs : X.stack = X.env :: X.outer) (hf : X.env.frame = some X.env.locals) (hN : X.N.Nodup) (hi : X.N[i]? = some n) (hln : X.env.kindOf n = some .local) (hc : Names X x c)
    (hb : ∀ (L0 : Lg) (pn : List (Addr × Obj)) (xe : Value → Shared → Prop), PassesOwn (model X.prog X.w) X.A X.env xe → Tx (X.tr pn xe) L0 kg → WSsx (X.tr pn xe) L0 body Γ O De)
    (hh : ∀ C fds Γ' O', kg C fds Γ' O' → PySem.W.exmOne X.K (.ref C) c = some true ∧ ∀ (a dd : Addr) (oe : Obj) (pn : List (Addr × Obj)), Zc (.ref C) (some dd) oe → (∃ vs, oe.data = .fields vs) →
      WSs (X.suite a ((a, oe) :: pn)) (b₀ :: suite) (Γ'.set i (some (.exc a dd fds))) O' (De.gone i)) :
    WS X (.Try body [.ExceptHandler (some (.Name x np)) (some n) (b₀ :: suite) pos'] [] [] pos) Γ O De := fun σ L H hsl hr E q => by
  let tb : WX → TS := fun W D σ H => ∀ (pn : List (Addr × Obj)) (xe : Value → Shared → Prop), Takes (X.tr pn xe) W → PassesOwn (model X.prog X.w) X.A X.env xe → uSs (X.tr pn xe) body D σ H
  let ts : Addr → Value → Option Addr → TS := fun a cls d D σ H => ∀ (oe : Obj) (pn : List (Addr × Obj)), Zc cls d oe → (∃ vs, oe.data = .fields vs) → uSs (X.suite a ((a, oe) :: pn)) (b₀ :: suite) D σ H
  refine toS (ps_try_as (tb := tb) (ts := ts) (Wout := fun _ _ _ _ => False) hs hf hN hi hln hc (fun u s' ⟨_, _, _, _, _, _, _, _, _, _, _, _, _, _, _, _, w⟩ => w.elim)
    (fun W pn xe tk po => ⟨fun pins s σ H D I h => h pn xe tk po pins s I⟩) (fun a oe cls d pn hz hv => ⟨fun pins s σ H D I h => h oe pn hz hv pins s I⟩)) ?_
  intro pn xe tk po
  have tx : Tx (X.tr pn xe) L kg := ⟨⟨_, tk, fun C d fs fds Γ' O' σ' L' H' hk le hsl' hd e1 e2 r => by
    obtain ⟨z1, z2⟩ := hh C fds Γ' O' hk
    refine ⟨true, z1, fun _ a ha oe pn' hz hv => ?_, fun z => by cases z⟩
    obtain ⟨L2, le2, hx, r2⟩ := R.addXd r hd
    exact z2 a d oe pn' hz hv (σ'.set i (some (.ref a))) L2 H' ((hsl'.mono le2).set (.exc hx e1 (e2.mono le2)) i) r2 _ (fol_gone (q.le (le.trans le2)) i)⟩⟩
  exact hb L pn xe po tx σ L H (.refl L) hsl hr E q
/-- e.f of the caught exception -/
theorem we_xf {a C dd : Addr} {oe : Obj} {pn : List (Addr × Obj)} {e : Expr} {f : Str} {fds : List (Str × D)} {y : D} {pos : Pos} (T : XfC X.K C) (hno : PySem.W.findIn X.K (.ref C) f = some none) (hz : Zc (.ref C) (some dd) oe) (hv : ∃ vs, oe.data = .fields vs)
    (hl : fds.lookup f = some y) (hb : attributeBase e f (X.suite a ((a, oe) :: pn)).env (eval e (X.suite a ((a, oe) :: pn)).env) = eval e (X.suite a ((a, oe) :: pn)).env)
    (h : WE (X.suite a ((a, oe) :: pn)) e Γ O fun x O1 => x = .exc a dd fds ∧ k y O1) : WE (X.suite a ((a, oe) :: pn)) (.Attribute e f pos) Γ O k := fun σ L H hs hr Q q => by
  refine toE (pe_xf (X := X) (a := a) (pn := pn) T hno hz hv (pu e) hb) ?_
  refine h σ L H hs hr _ fun v x O1 L1 H1 h1 e1 i1 r1 => ?_
  obtain ⟨ex, h2⟩ := h1
  subst ex
  obtain ⟨fs, rfl, hd, e2, e3⟩ := i1.exc'
  obtain ⟨w, g1, g2⟩ := (lookup_is e2 e3).1 y hl
  exact ⟨rfl, rfl, dd, fs, w, rfl, r1.hp _ _ hd, g1, q _ _ _ _ _ h2 e1 g2 r1⟩
/-- isinstance(e, P), P a class -/
theorem wc_isiX {a C dd P : Addr} {oe : Obj} {pn : List (Addr × Obj)} {fds : List (Str × D)} {b : Bool} (T : ExcC X.K C) (hz : Zc (.ref C) (some dd) oe) (hv : ∃ vs, oe.data = .fields vs) (hk : PySem.W.kitOne X.K (.ref C) (.ref P) = some b)
    (h : k (.bl b) O) : WC (X.suite a ((a, oe) :: pn)) (.builtin "isinstance") [.exc a dd fds, .own P] O k := fun vs L H is hr Q q => by
  obtain ⟨v, u, rfl, i1, i2⟩ := is.two'
  obtain ⟨fs, rfl, hd, e1, e2⟩ := i1.exc'
  obtain rfl := i2.own'
  have fin : Q (.bl b) H := q _ _ _ _ _ h (.refl L) (.bl _) hr
  intro pins s σ us I rx
  cases rx with
  | cons r1 t1 =>
    cases t1 with
    | cons r2 t2 =>
      cases t2
      cases r1
      cases r2
      obtain ⟨ha, _⟩ := I.pin (a, oe) (List.mem_append_left _ List.mem_cons_self)
      obtain ⟨ws, hws⟩ := hv
      have hx : ObjOk X.prog X.w H s.heap dd (.xd fs) := I.hok dd _ (hr.hp _ _ hd)
      obtain ⟨mA, hns, _⟩ := hx
      obtain ⟨od, ho, _⟩ := lookIn_ns hns
      have J : PySem.W.InstAt s.heap a oe C (some od) := ⟨ha, hz.1, by unfold PySem.W.notCls; rw [hws] <;> rfl, by rw [hz.2]; exact ho⟩
      have hcl : (PySem.W.clsIn X.K C).isSome = true := by
        obtain ⟨cd, hc, _⟩ := PySem.W.any_some T.hd
        rw [hc]; rfl
      exact PySem.W.kia_one (PySem.W.kitx_exc hcl T.hg T.hk T.hs T.ha T.hn T.ht T.hm) I.kIn J hk (fun z => nomatch z) fun tk => ⟨.bl b, H, I.kept (t' := tk) fun _ _ z => z, rfl, fin⟩
theorem ex_ifExp {c a b : Expr} {pos : Pos} (h : WT X c Γ O fun t O1 => if t = true then WEx X L0 a Γ O1 k else WEx X L0 b Γ O1 k) : WEx X L0 (.IfExp c a b pos) Γ O k := fun σ L H l0 hs hr Q q => by
  refine toE (pe_ifExp (ptu c) (pu a) (pu b)) ?_
  refine h σ L H hs hr _ fun t O1 L1 H1 h1 e1 r1 => ?_
  cases t with
  | true =>
    have h2 : WEx X L0 a Γ O1 k := h1
    exact iteT (h2 σ L1 H1 (l0.trans e1) (hs.mono e1) r1 Q (q.le e1))
  | false =>
    have h2 : WEx X L0 b Γ O1 k := h1
    exact iteF (h2 σ L1 H1 (l0.trans e1) (hs.mono e1) r1 Q (q.le e1))
end
end DL
/-! DL, part R: repr of an owned list, a slot that is frozen, classes made with defaults -/
namespace DL
open L2 PySem
open PySem.Spec PyProof.Rows
section
variable {X : Cx} {L0 : Lg} {kg : KG} {Γ : Sg} {O : Ow} {k : KD} {De : DE} {st : List Stmt} {e : Expr} {es : List Expr}
theorem wc_reprO {p : Addr} {ds : List D} (ho : O p = some (.lst ds)) (hg : X.A.guards = some []) (hu : X.A.units + 64 < cLine) (hp : (D.lst ds).isPy = true) (hs : (D.lst ds).py.showable = true) (hd : (D.lst ds).py.depth ≤ 60) (hz : (D.lst ds).py.shown.length ≤ sizeLine) (h : k (.str (D.lst ds).py.shown) O) : WC X (.builtin "repr") [.own p] O k := fun vs L H is hr Q q => by
  obtain ⟨v, rfl, i⟩ := is.one'
  obtain rfl := i.own'
  obtain ⟨xs, h1, h2⟩ := own_lst hr ho
  have dp : Dp X.K H (.ref p) (D.lst ds).py := .lst (.inl (.inl h1)) (IsL.dp hr h2 (by simpa [D.isPy] using hp))
  have fin : Q (.str (D.lst ds).py.shown) H := q _ _ _ _ _ h (.refl L) (.str _) hr
  intro pins s σ us I rx
  obtain ⟨u, rfl, r1⟩ := Vals.one rx
  obtain ⟨as, rd⟩ := Dp.reads I _ _ u dp r1
  cases r1
  refine repr_of_reads' rd hs (PyData.noDict_hsm (py_noDict hp)) hg (by omega) (fun _ _ z => z) (fun h' t tk kp => ?_) hz
  exact ⟨.str (D.lst ds).py.shown, H, I.kept (t' := tk) kp, ⟨t, rfl⟩, fin⟩
theorem wss_frz {i : Nat} {p : Addr} {od : OD} (ho : O p = some od) (hg : Γ[i]? = some (some (.own p))) (h : WSs X st (Γ.set i (some od.d)) (del O p) De) : WSs X st Γ O De := fun σ L H hs hr E q => by
  obtain ⟨L', le, is, r'⟩ := hr.freeze ho
  obtain ⟨v, e, z⟩ := hs.at_ i _ hg
  obtain rfl := z.own'
  have hs' : Sl X.K L' σ (Γ.set i (some od.d)) := ⟨by rw [List.length_set]; exact hs.len, fun j d hd => by
    by_cases c : i = j
    · subst c
      have hl : i < Γ.length := (List.getElem?_eq_some_iff.mp hg).1
      rw [List.getElem?_set_self hl] at hd
      cases hd
      exact ⟨.ref p, e, is⟩
    · rw [List.getElem?_set_ne c] at hd
      exact (hs.mono le).at_ j d hd⟩
  exact h σ L' H hs' r' E (q.le le)
/-- the class at C, the last arguments by default -/
structure KcD (X : Cx) (x : Str) (C : Addr) (j : Nat) (S : SpD) (dds : List D) : Prop where
  ex : ∃ (f : Addr) (fd : FuncData) (ps : List Str) (dvs : List V) (dus : List Value), FnG X.prog X.w X.K X.mg X.base (L2.CX X.prog X.w) j f fd ps (spOf X.K S) ∧ Mk X.K C f ∧ Vals dvs dus ∧ (∀ L, IsL X.K L dvs dds) ∧ L2.Binds X.K fd ps dus
  mg : X.mg x = some (.ref C)
  gl : Gl X x
  db : (x == ("__debug__" : Str)) = false
theorem make_runD {x : Str} {C : Addr} {j : Nat} {S : SpD} {dds : List D} (F : KcD X x C j S dds) (hn : ∀ e s, ¬ X.xe e s → True) (hgd : X.A.guards = some []) (hr : Room (j + 1) X.A) {pins : List (Addr × Obj)} {σ : L2.St} {H1 : Hp} {s1 : Shared} {us : List Value} {vs : List V} {ds : List D} {O1 : Ow} {L1 : Lg} {Q : VK}
    (I1 : Inv X pins σ H1 s1) (rv : Vals vs us) (is1 : IsL X.K L1 vs ds) (r1 : R X.K L1 O1 H1) (q : Fol X.K L1 (Fz k) Q)
    (h1 : ∀ p, O1 p = none → S (.own p :: (ds ++ dds)) (put O1 p (.ins C [])) (fun d O2 => d = .non ∧ Fz k (.own p) O2) fun _ _ _ => False) : wpAny (model X.prog X.w) X.A (call (.ref C) us) (EP X pins σ Q) X.xe s1 := by
  obtain ⟨f, fd, ps, dvs, dus, G, M, dr, dd, hb⟩ := F.ex
  have n1 : H1 (s1.heap.objs.size + 1) = none := I1.hok.fresh (Nat.le_succ _)
  have n2 : H1 s1.heap.objs.size = none := I1.hok.fresh (Nat.le_refl _)
  have ne : s1.heap.objs.size + 1 ≠ s1.heap.objs.size := Nat.succ_ne_self _
  have I2 := Inv.made (C := C) I1
  have ra := r1.aside (o := .own (s1.heap.objs.size + 1)) n2
  have n3 : upd H1 s1.heap.objs.size (.own (s1.heap.objs.size + 1)) (s1.heap.objs.size + 1) = none := by rw [upd_ne ne]; exact n1
  have rb := ra.newOwn (p := s1.heap.objs.size + 1) (o := .ins C s1.heap.objs.size []) (od := .ins C []) n3 ⟨_, [], upd_same, rfl, .nil⟩
  have sp : spOf X.K S (V.ref (s1.heap.objs.size + 1) :: (vs ++ dvs)) _ (fun v H2 => v = .non ∧ Q (.ref (s1.heap.objs.size + 1)) H2) (fun _ _ _ => False) :=
    ⟨_, L1, _, _, _, .cons (.own (s1.heap.objs.size + 1)) (is1.append (dd L1)), rb, h1 _ (ra.free n3).2.1, fun v d O2 L2 H2 ⟨hd, hk⟩ le2 i2 r2 => by
      subst hd
      exact ⟨i2.non', q _ _ _ _ _ hk le2 (.own _) r2⟩, fun _ _ _ _ _ _ _ z => z.elim⟩
  have r2 : Vals (V.ref (s1.heap.objs.size + 1) :: (vs ++ dvs)) (Value.ref (s1.heap.objs.size + 1) :: us ++ dus) := .cons rfl (rv.append dr)
  have hl : (Value.ref (s1.heap.objs.size + 1) :: us ++ dus).length = ps.length := by
    rw [← r2.length]; exact G.ln _ _ _ _ sp
  refine wpAny_call (make_map (f := f) I1.kIn M.makes M.init (beq_iff_eq.mp M.fn) (codeAny_mono (G.go _ X.stack _ _ ⟨Value.ref (s1.heap.objs.size + 1) :: us, []⟩ (Value.ref (s1.heap.objs.size + 1) :: us ++ dus) _ _ _ (make_guards hgd) (hr.make C us []) (I2.env0.make C us []) (hb _ _ I2.kIn hl) r2 sp) fun r s' hq => ?_))
  match r, hq with
  | .ok (.ret u), hq =>
    obtain ⟨v, H', I3, rv', ev, q3⟩ := I2.after hq
    subst ev
    exact ⟨rv', ⟨V.ref (s1.heap.objs.size + 1), H', I3, rfl, q3⟩⟩
  | .ok .next, hq => exact hq.elim
  | .ok .brk, hq => exact hq.elim
  | .ok .cont, hq => exact hq.elim
  | .error e, hq => obtain ⟨_, _, _, _, _, _, _, _, _, _, _, _, z⟩ := hq; exact z.elim
theorem we_makeD {x : Str} {C : Addr} {j : Nat} {S : SpD} {dds : List D} {p pos : Pos} (F : KcD X x C j S dds) (hgd : X.A.guards = some []) (hr : Room (j + 1) X.A) (he : starEach (e :: es) X.env = (false, eval e X.env) :: starEach es X.env) (hpl : (backTo pos (starEach es X.env)).any (·.1) = false)
    (h : WA X (e :: es) Γ O fun ds O1 => ∀ p, O1 p = none → S (.own p :: (ds ++ dds)) (put O1 p (.ins C [])) (fun d O2 => d = .non ∧ Fz k (.own p) O2) fun _ _ _ => False) : WE X (.Call (.Name x p) (e :: es) [] pos) Γ O k := fun σ L H hs hR Q q0 pins s I => by
  have q := fol_fz q0
  obtain ⟨f, fd, ps, dvs, dus, G, M, dr, dd, hb⟩ := F.ex
  refine wpAny_Call_Name_kw (ld_glob I F.gl F.mg ?_ F.db)
  refine PySem.W.callWith_K (h₀ := X.base) I.ok.mod.kin M.kp (thn (h σ L H hs hR (fun vs H1 => ∃ ds O1 L1, (∀ p, O1 p = none → S (.own p :: (ds ++ dds)) (put O1 p (.ins C [])) (fun d O2 => d = .non ∧ Fz k (.own p) O2) fun _ _ _ => False) ∧ L.le L1 ∧ IsL X.K L1 vs ds ∧ R X.K L1 O1 H1) (fun vs ds O1 L1 H1 a b c d => ⟨ds, O1, L1, a, b, c, d⟩) pos pins s I)
    fun us s1 ⟨vs, H1, I1, rv, ds, O1, L1, h1, le1, is1, r1⟩ => ⟨I1.kIn, ?_⟩) he hpl
  exact make_runD F (fun _ _ _ => trivial) hgd hr I1 rv is1 r1 (q.le le1) h1
theorem we_makeD0 {x : Str} {C : Addr} {j : Nat} {S : SpD} {dds : List D} {p pos : Pos} (F : KcD X x C j S dds) (hgd : X.A.guards = some []) (hr : Room (j + 1) X.A)
    (h : ∀ p, O p = none → S (.own p :: ([] ++ dds)) (put O p (.ins C [])) (fun d O2 => d = .non ∧ Fz k (.own p) O2) fun _ _ _ => False) : WE X (.Call (.Name x p) [] [] pos) Γ O k := fun σ L H hs hR Q q0 pins s I => by
  have q := fol_fz q0
  obtain ⟨f, fd, ps, dvs, dus, G, M, dr, dd, hb⟩ := F.ex
  refine wpAny_Call_Name_kw (ld_glob I F.gl F.mg ?_ F.db)
  refine PySem.W.callWith_K0 (first := []) I.kIn M.kp ?_
  exact make_runD F (fun _ _ _ => trivial) hgd hr I .nil .nil hR q h
end
/-- where the class stands, its __init__ with the defaults at T -/
inductive DnD (K : PySem.W.Frag) (C : Addr) (qual : Str) (st : Stmt) (dvs : List V) : Prop where
  | mk {f : Addr} {oc : Value} {od an : Option Addr} {osl : Array (Option Value)} {kV doc pm cdv ct : Value} {T : Addr} {ot : Value} {dt : Option Addr} {its : Array Value} {n : Nat} {stt : Array (Option Value)} (m : PySem.W.makesIn K C = true) (a : PySem.W.findIn K (.ref C) "__init__" = some (some (.ref f))) (i : PySem.W.isFn K (.ref f) = true) (kc : PySem.W.keepIn K (.ref C) = true) (l : K.lookup f = some ⟨oc, od, .func (PySem.W.fnOf "__init__" qual (defArgs st) (defBody st) (defScope st) (.ref T) kV doc pm an cdv ct), osl⟩) (c : PySem.W.codeIn K cdv qual = true)
      (lT : K.lookup T = some ⟨ot, dt, .seq its n, stt⟩) (hz : Vals dvs its.toList) : DnD K C qual st dvs
section
variable {base : Heap} {mg : Str → Option Value} {K : PySem.W.Frag} {w : World} {P : Program}
structure PcD (P : Program) (w : World) (K : PySem.W.Frag) (mg : Str → Option Value) (base : Heap) (x : Str) (C : Addr) (j : Nat) (S : SpD) (dds : List D) : Prop where
  ex : ∃ (f : Addr) (fd : FuncData) (ps : List Str) (dvs : List V) (dus : List Value), FnG P w K mg base (L2.CX P w) j f fd ps (spOf K S) ∧ Mk K C f ∧ Vals dvs dus ∧ (∀ L, IsL K L dvs dds) ∧ L2.Binds K fd ps dus
  mg : mg x = some (.ref C)
theorem PcD.kd {x : Str} {C : Addr} {j : Nat} {S : SpD} {dds : List D} (F : PcD P w K mg base x C j S dds) {X : Cx} (e1 : X.prog = P) (e2 : X.w = w) (e3 : X.K = K) (e4 : X.mg = mg) (e5 : X.base = base) (gl : Gl X x) (db : (x == ("__debug__" : Str)) = false) : KcD X x C j S dds := by
  subst e1 e2 e3 e4 e5
  exact ⟨F.ex, F.mg, gl, db⟩
theorem vals_drop : ∀ (i : Nat) {vs : List V} {us : List Value}, Vals vs us → Vals (vs.drop i) (us.drop i)
  | 0, _, _, h => h
  | _ + 1, _, _, .nil => .nil
  | n + 1, _, _, .cons _ t => vals_drop n t
theorem PcD.of {x : Str} {C : Addr} {qual : Str} {st : Stmt} {N ps : List Str} {j : Nat} {S : SpD} {dvs : List V} {dds : List D} (T : DnD K C qual st dvs) (hx : mg x = some (.ref C)) (Sc : FnScope N ps (defScope st)) (len : ∀ ds O k kx, S ds O k kx → ds.length = ps.length)
    (h : ∀ (f : Addr) (cdv : Value) (A : Around) (outer : List Env) (s : Shared) (H : Hp) (E : XK), A.guards = some [] → Room j (A.deeper (envOfC qual (defScope st) s.heap.objs.size f cdv)) → ∀ L0 ds O k kx, S ds O k kx →
      Tx (Bx P w K mg base N qual st f cdv A outer s H E) L0 (fun C fds _ O' => kx C fds O') →
      WSsx (Bx P w K mg base N qual st f cdv A outer s H E) L0 (defBody st) (gst N.length ds) O { nx := fun _ O' => Ret k .non O', rt := Ret k }) (i : Nat) (hd : ∀ L, IsL K L (dvs.drop i) dds)
    (b : ∀ (T : Addr) (its : Array Value) (kV doc pm : Value) (an : Option Addr) (cdv ct : Value) (us : List Value), its.toList.length = dvs.length → (us ++ its.toList.drop i).length = ps.length → ∃ k, bindArgs (PySem.W.fnOf "__init__" qual (defArgs st) (defBody st) (defScope st) (.ref T) kV doc pm an cdv ct) ⟨us, []⟩ = seqItems? (.ref T) >>= k ∧ k (some its) = pure (ps.zip (us ++ its.toList.drop i))) : PcD P w K mg base x C (j + 1) S dds := by
  cases T with
  | mk m a i2 kc l c lT hz =>
    refine ⟨⟨_, _, ps, dvs.drop i, _, fn_bodyX (funx_mk l c) Sc len (h _), ⟨m, a, i2, kc⟩, vals_drop i hz, hd, fun s us X hl => ?_⟩, hx⟩
    obtain ⟨k, e1, e2⟩ := b _ _ _ _ _ _ _ _ us (hz.length.symm) hl
    refine L2.BindsTo.of_looks fun M => ?_
    rw [e1]
    exact L2.looks_items X lT rfl (.of_pure e2)
end
end DL
/-! DL, part S: own comparisons, str of an instance -/
namespace DL
open PySem PySem.Spec PyProof.Rows L2 ClX
section
variable {X : Cx} {pins : List (Addr × Obj)} {σ : L2.St} {H : Hp} {s : Shared} {Q : VK} {A : Around}
/-- a call of a def where A is some builtin's inside -/
theorem run_gA {us : List Value} {vs : List V} {j : Nat} {f : Addr} {fd : FuncData} {ps : List Str} {sp : Sp} (G : FnG X.prog X.w X.K X.mg X.base CX0 j f fd ps sp) (hgd : A.guards = some []) (hr : Room j A) (e0 : Env0 X.prog X.w X.K X.mg X.base A X.stack s H) (hb : Binds X.K fd ps [])
    (I : Inv X pins σ H s) (r : Vals vs us) (h : sp vs H Q E0) : wpAny (model X.prog X.w) A (call (.ref f) us) (EP X pins σ Q) X.xe s := by
  have hl : (us ++ []).length = ps.length := by rw [List.append_nil, ← r.length]; exact G.ln _ _ _ _ h
  refine wpAny_call (codeAny_mono (G.go A X.stack s H ⟨us, []⟩ (us ++ []) vs Q E0 hgd hr e0 (hb s us I.kIn hl) (by rw [List.append_nil]; exact r) h) fun r s' hq => ?_)
  cases r with
  | error e => exact
        False.elim hq
  | ok fl =>
    cases fl with
    | ret u => exact I.after hq
    | next => exact False.elim hq
    | brk => exact False.elim hq
    | cont => exact False.elim hq
theorem cmp_back {u : Value} {s' : Shared} {Q : Value → Shared → Prop} {v : V} (r : RelV v u) (h : Q u s') : PySem.W.CmpBack Q u s' := by
  cases v <;> first | (cases r; exact h) | (obtain ⟨t, rfl⟩ := r; exact h)
end
section
variable {prog : Program} {w : World} {A : Around} {E : Value → Shared → Prop} {s : Shared} {K : PySem.W.Frag} {x C f L : Addr} {ox : Obj} {od : Option Obj} {b tb : Value}
/-- != by the own == -/
theorem ne_low {Q : Value → Shared → Prop} (hu : A.units + 1 < cLine) (KX : K.In s.heap) (I : PySem.W.InstAt s.heap x ox C od) (hb : PySem.W.Looks (model prog w) s.heap (typeOf b) tb) (hn : PySem.W.notFirst K C tb = true)
    (hne : PySem.W.findIn K (.ref C) "__ne__" = some (some (.builtin "object.__ne__"))) (hob : PySem.W.mroIn K C (.type "object") = some true) (hs : PySem.W.findIn K (.ref C) "__eq__" = some (some (.ref f))) (hf : PySem.W.isFn K (.ref f) = true)
    (h : wpAny (model prog w) A.in1 (call (.ref f) [.ref x, b]) (fun v s' => ∃ r, v = .bool r ∧ Q (.bool (!r)) s') E s) : wpAny (model prog w) A (richCompare .NotEq (.ref x) b) Q E s := by
  have body : wpAny (model prog w) A.in1 (Builtin.«object.__ne__» ⟨[.ref x, b], []⟩) (fun fin s' => ∃ r, fin = .done (.ret (.bool r)) ∧ Q (.bool r) s') E s := by
    unfold
        Builtin.«object.__ne__»
    refine wpAny_bind (m := slotArgs "__ne__" 1 _) (wpAny_pure ?_)
    refine wpAny_bind (m := cRoomFor
        _ _) (wpAny_cRoomFor hu ?_)
    refine wpAny_bind (m := callSpecialIfBound? (.ref x) (Str.ofString "__eq__") [b]) (PySem.W.ifBound_K KX I hs (beq_iff_eq.mp (beq_iff_eq.mpr hf)) (wpAny_mono h (fun v s' hv => ?_) fun _ _ e => e))
    obtain ⟨r, rfl, hq⟩ := hv
    refine wpAny_bind (wpAny_truthy_bool ?_)
    exact wpAny_pure ⟨_, rfl, hq⟩
  have one : wpAny (model prog w) A (tryCompare (.ref x) "__ne__" b) (fun r s' => ∃ v, r = some (.bool v) ∧ Q (.bool v) s') E s := by
    unfold tryCompare
    refine wpAny_bind (NtL.csib (I.type.andThen (PySem.W.looks_findIn KX hne)) (F.cmp_object.ne.bind _) ?_)
    refine wpAny_call (codeAny_call_builtin F.cmp_object.ne.plain F.cmpEntry_ne (PySem.W.check_slot F.cmpKind_ne F.cmpSplit_ne (I.type.andThen (PySem.W.looks_mroIn KX hob)) (F.cmpArgs_ne _ _) (wpAny_mono body (fun fin s' z => ?_) fun _ _ e => e)))
    obtain ⟨r, rfl, hq⟩ := z
    exact wpAny_pure ⟨r, rfl, hq⟩
  -- the right side is of no class below C: the left one is asked first
  have side : (Value.ref C != tb) = true → PySem.W.subIn K tb (.ref C) = some false := fun q => by
    unfold PySem.W.notFirst at hn
    simp only [Bool.or_eq_true, beq_iff_eq] at hn
    rcases hn with z | z
    · subst z
      simp at q
    · exact z
  unfold richCompare
  simp only [oneThing_ref]
  refine wpAny_holding (wpAny_bind (wpAny_cRoomFor (by omega) (wpAny_bind (I.type.here (wpAny_bind (hb.here ?_))))))
  by_cases q : (Value.ref C != tb) = true
  · rw [if_pos q]
    refine wpAny_bind ((PySem.W.looks_subIn KX (side q)).here ?_)
    simp only [Bool.false_eq_true,
        if_false]
    refine wpAny_bind (m := tryCompare (.ref x) _ _) (wpAny_mono one (fun r s' z => ?_) fun _ _ e => e)
    obtain ⟨v, rfl, hq⟩ := z
    exact wpAny_pure hq
  · rw [if_neg q]
    refine wpAny_bind (wpAny_pure
        ?_)
    simp only [Bool.false_eq_true,
        if_false]
    refine wpAny_bind (m := tryCompare (.ref x) _ _) (wpAny_mono one (fun r s' z => ?_) fun _ _ e => e)
    obtain ⟨v, rfl, hq⟩ := z
    exact wpAny_pure hq
end
section
variable {X : Cx} {O : Ow} {k : KD} {C : Addr} {j : Nat} {S : SpD}
/-- two instances of the class at C compared by its own == -/
theorem wo_eqOwn {x y : D} {fds gds : List (Str × D)} (F : Km X C "__eq__" j S) (hgd : X.A.guards = some []) (hr : Room j X.A) (hx : InD O x C fds) (hy : InD O y C gds) (h : S [x, y] O k fun _ _ _ => False) : WO X (compareOp .Eq) x y O k := fun vx vy L H ix iy hR Q q => by
  obtain ⟨a, dx, fs, rfl, ha, _, _⟩ := inD_of hR hx ix
  obtain ⟨b, dy, gs, rfl, hb, _, _⟩ := inD_of hR hy iy
  obtain ⟨f, fd, ps, G, M, bd⟩ := F.ex
  intro pins s σ v u I rx ry
  cases rx
  cases ry
  obtain ⟨mA, J,
      _⟩ := ins_get I.hok ha
  obtain ⟨mB, J', _⟩ := ins_get I.hok hb
  obtain ⟨od, J, _⟩ := J.look
  obtain ⟨od', J',
      _⟩ := J'.look
  obtain ⟨m, hF⟩ := I.fr
  refine PySem.W.cmp_K (op := .Eq) (tb := .ref C) hr.units0 hF I.ok.mod.kin J J'.type (by simp [PySem.W.notFirst]) M.at_ M.fn ?_
  refine wpAny_mono (run_gA (us := [.ref a, .ref b]) (vs := [.ref a, .ref b]) G hgd hr I.env0 bd I (.cons rfl (.cons rfl .nil)) (sp_of h (.cons ix (.cons iy .nil)) hR q)) (fun w s' z => ?_) fun _ _ e => e
  obtain ⟨z', H',
      I', rz, qz⟩ := z
  exact cmp_back rz ⟨z', H', I', rz, qz⟩
theorem wo_neOwn {x y : D} {fds gds : List (Str × D)} (F : Km X C "__eq__" j S) (hne : PySem.W.findIn X.K (.ref C) "__ne__" = some (some (.builtin "object.__ne__"))) (hob : PySem.W.mroIn X.K C (.type "object") = some true) (hgd : X.A.guards = some []) (hr : Room (j + 1) X.A)
    (hx : InD O x C fds) (hy : InD O y C gds) (h : S [x, y] O (fun d O' => ∃ b, d = .bl b ∧ k (.bl (!b)) O') fun _ _ _ => False) : WO X (compareOp .NotEq) x y O k := fun vx vy L H ix iy hR Q q => by
  obtain ⟨a, dx, fs, rfl, ha, _, _⟩ := inD_of hR hx ix
  obtain ⟨b, dy, gs, rfl, hb, _, _⟩ := inD_of hR hy iy
  obtain ⟨f, fd, ps, G, M, bd⟩ := F.ex
  intro pins s σ v u I rx ry
  cases rx
  cases ry
  obtain ⟨mA, J,
      _⟩ := ins_get I.hok ha
  obtain ⟨mB, J', _⟩ := ins_get I.hok hb
  obtain ⟨od, J, _⟩ := J.look
  obtain ⟨od', J',
      _⟩ := J'.look
  refine ne_low (tb := .ref C) (by have := hr.units; omega) I.kIn J J'.type (by simp [PySem.W.notFirst]) hne hob M.at_ M.fn ?_
  refine wpAny_mono (run_gA (A := X.A.in1) (us := [.ref a, .ref b]) (vs := [.ref a, .ref b]) (Q := fun w H' => ∃ r, w = .bl r ∧ Q (.bl (!r)) H') G hgd hr.in1 I.env0.in1 bd I (.cons rfl (.cons rfl .nil)) (sp_of h (.cons ix (.cons iy .nil)) hR (fun v d O' L' H' ⟨r, hd, hk⟩ le i r' => by
    subst hd
    exact ⟨r, i.bl', q _ _ _ _ _ hk le (.bl _) r'⟩))) (fun w s' z => ?_) fun _ _ e => e
  obtain ⟨z', H', I', rz, r, ez, qz⟩ := z
  subst ez
  cases rz
  exact ⟨r, rfl, .bl (!r), H', I', rfl, qz⟩
/-- str(x) by the own __str__ -/
theorem wc_strOwn {x : D} {fds : List (Str × D)} (F : Km X C "__str__" j S) (hgd : X.A.guards = some []) (hr : Room (j + 2) X.A) (hx : InD O x C fds) (h : S [x] O (fun d O' => ∃ z, d = .str z ∧ k (.str z) O') fun _ _ _ => False) : DL.WC X (.type "str") [x] O k := fun vs L H is hR Q q => by
  obtain ⟨vx, rfl, ix⟩ := is.one'
  obtain ⟨a, dx, fs, rfl, ha, _, _⟩ := inD_of hR hx ix
  obtain ⟨f, fd, ps, G, M, bd⟩ := F.ex
  intro pins s σ us I rx
  obtain ⟨u, rfl, r1⟩ := Vals.one rx
  cases r1
  obtain ⟨mA, J,
      _⟩ := ins_get I.hok ha
  obtain ⟨od, J, _⟩ := J.look
  have hr2 : Room j X.A.in1.in1 := (show Room (j + 1) X.A.in1 from hr.in1).in1
  refine PySem.W.kso_call hr2.units0 I.kIn J M.at_ M.fn ?_
  refine wpAny_mono (run_gA (A := X.A.in1.in1) (us := [.ref a]) (vs := [.ref a]) (Q := fun w H' => ∃ z, w = .str z ∧ Q (.str z) H') G hgd hr2 I.env0.in1.in1 bd I (.cons rfl .nil) (sp_of h (.cons ix .nil) hR (fun v d O' L' H' ⟨z, hd, hk⟩ le i r' => by
    subst hd
    exact ⟨z, i.str', q _ _ _ _ _ hk le (.str _) r'⟩))) (fun w s' z => ?_) fun _ _ e => e
  obtain ⟨z', H', I', rz, y, ez, qz⟩ := z
  subst ez
  obtain ⟨t, rfl⟩ := rz
  exact ⟨.str y, H', I', ⟨t, rfl⟩, qz⟩
end
/-! ### classmethods, classes under a local name -/
/-- C.m is a classmethod that keeps a promise; the class itself is its first argument -/
structure Kcm (X : Cx) (C : Addr) (m : Str) (j : Nat) (S : SpD) : Prop where
  ex : ∃ (mc : Value) (p g : Addr) (fd : FuncData) (ps : List Str), CRead X.K C mc ∧ CMet X.K C mc m p g ∧ FnG X.prog X.w X.K X.mg X.base (L2.CX X.prog X.w) j g fd ps (spOf X.K S) ∧ Binds X.K fd ps []
section
variable {X : Cx} {L0 : Lg} {kg : KG} {Γ : Sg} {O : Ow} {k : KD} {C : Addr} {m : Str} {j : Nat} {S : SpD} {o e : Expr} {es : List Expr} {apos pos : Pos} {pl : Sem Bool}
theorem we_cmX (F : Kcm X C m j S) (tx : Tx X L0 kg) (hgd : X.A.guards = some []) (hr : Room j X.A)
    (hst : starEach (e :: es) X.env = (false, eval e X.env) :: starEach es X.env) (hpl : (backTo pos (starEach es X.env)).any (·.1) = false)
    (ht : eval (.Call (.Attribute o m
        apos) (e :: es) [] pos) X.env = (do
      let obj ← eval o X.env
      standAt apos.atName
      let (fn, fst) ← holding [obj] (getMethod obj m pl)
      callWith pos fn fst (backTo pos (starEach (e :: es) X.env)) (backToKw pos (keywordEach [] X.env))))
    (h : WE X o Γ O fun x O1 => x = .own C ∧ WA X (e :: es) Γ O1 fun ds O2 => S (.own C :: ds) O2 k fun Ce fds O3 => ∃ O4, DL.Sub O4 O3 ∧ kg Ce fds Γ O4) : WEx X L0 (.Call (.Attribute o m apos) (e :: es) [] pos) Γ O k := fun σ L H l0 hs hR Q q pins s I => by
  obtain ⟨W, tk, tw⟩ := tx.ex
  obtain ⟨mc, p, g, fd, ps, cr, cm, G, hb⟩ := F.ex
  refine PySem.W.methodCall_KW (pl := pl) (thn (h σ L H hs hR (fun v H1 => ∃ O1 L1, v = .ref C ∧ (WA X (e :: es) Γ O1 fun ds O2 => S (.own C :: ds) O2 k fun Ce fds O3 => ∃ O4, DL.Sub O4 O3 ∧ kg Ce fds Γ O4) ∧ L.le L1 ∧ R X.K L1 O1 H1) (fun v d O1 L1 H1 ⟨hd, ha⟩ le i r => ⟨O1, L1, by subst hd; exact i.own', ha, le, r⟩) pins s I)
    fun u s1 ⟨v, H1, I1, r1, O1, L1, hv, ha, le1, R1⟩ => ?_) ht
  subst hv
  cases r1
  refine getmethcm_ok I1 cr cm fun s2 I2 => ?_
  refine callwith_cm I2 (base_none I1 (Nat.le_refl _)) cm.fi (thn (ha σ L1 H1 (hs.mono le1) R1 (fun vs H2 => ∃ ds O2 L2, (S (.own C :: ds) O2 k fun Ce fds O3 => ∃ O4, DL.Sub O4 O3 ∧ kg Ce fds Γ O4) ∧ L1.le L2 ∧ IsL X.K L2 vs ds ∧ R X.K L2 O2 H2) (fun vs ds O2 L2 H2 a b c d => ⟨ds, O2, L2, a, b, c, d⟩) pos _ s2 I2)
    fun us s3 ⟨vs, H2, I3, rv, ds, O2, L2, h2, le2, is2, R2⟩ => ⟨⟨pin_at I3, I3.kIn⟩, ?_⟩) hst hpl
  have sp : spOf X.K S (V.ref C :: vs) H2 Q (fun cls d H' => W cls d σ H') :=
    ⟨_, L2, _, _, _, .cons (.own C) is2, R2, h2, fun v d O3 L3 H3 hk le3 i3 r3 => q _ _ _ _ _ hk (le1.trans (le2.trans le3)) i3 r3, fun Ce d fs fds O3 L3 H3 ⟨O4, sub, hk⟩ le3 a b c r3 =>
      tw Ce d fs fds Γ O4 σ L3 H3 hk (l0.trans (le1.trans (le2.trans le3))) (hs.mono (le1.trans (le2.trans le3))) a b c (r3.sub sub)⟩
  have r2 : Vals (V.ref C :: vs) (Value.ref C :: us) := .cons rfl rv
  have hl : (Value.ref C :: us ++ []).length = ps.length := by
    rw [List.append_nil, ← r2.length]; exact G.ln _ _ _ _ sp
  have I4 := unpin I3
  refine wpAny_call (PySem.W.method_call (pin_at I3) (codeAny_mono (G.go X.A X.stack s3 H2 ⟨Value.ref C :: us, []⟩ (Value.ref C :: us ++ []) _ _ _ hgd hr I4.env0 (hb _ _ I4.kIn hl) (by rw [List.append_nil]; exact r2) sp) fun r s' hq => ?_))
  match r, hq with
  | .ok (.ret u), hq => exact I4.after hq
  | .ok .next, hq => exact hq.elim
  | .ok .brk, hq => exact hq.elim
  | .ok .cont, hq => exact hq.elim
  | .error e, hq => exact tk _ _ (XE.of_call I4 (fun _ _ _ h => h) hq)
end
end DL
/-! DL, part T: a try whose suite raises anew -/
namespace DL
open PySem PySem.Spec PyProof.Rows L2 L2H HotX
/-- exceptions without a context that the context takes -/
structure TxN (X : Cx) (L0 : Lg) (kg : KG) : Prop where
  ex : ∃ W : WX, L2N.Takes X W ∧ ∀ (C d : Addr) (fs : List (Str × V)) (fds : List (Str × D)) (Γ : Sg) (O : Ow) (σ : L2.St) (L : Lg) (H : Hp), kg C fds Γ O → L0.le L → Sl X.K L σ Γ → H d = some (.xd fs) →
    fs.map (·.1) = fds.map (·.1) → IsL X.K L (fs.map (·.2)) (fds.map (·.2)) → R X.K L O H → W (.ref C) (some d) σ H
section
variable {X : Cx} {L0 : Lg} {kg : KG} {Γ : Sg} {O : Ow} {k : KD} {De : DE} {e : Expr} {pos : Pos}
/-- the heap behind the making of an exception and its taking -/
theorem made_hp {H1 : Hp} {a dx C : Addr} {fs : List (Str × V)} (ha : H1 a = none) (hne : dx ≠ a) : upd (L2.del (upd (upd (upd H1 a (exo a C none)) dx (exd dx fs)) a (exo a C (some dx))) a) dx (.xd fs) = upd H1 dx (.xd fs) := by
  funext b
  by_cases c1 : b = dx
  · subst c1; rw [upd_same, upd_same]
  · rw [upd_ne c1, upd_ne c1]
    by_cases c2 : b = a
    · subst c2
      rw [ha]
      simp [L2.del]
    · have e3 : L2.del (upd (upd (upd H1 a (exo a C none)) dx (exd dx fs)) a (exo a C (some dx))) a b = upd (upd (upd H1 a (exo a C none)) dx (exd dx fs)) a (exo a C (some dx)) b := by
        simp [L2.del, c2]
      rw [e3, upd_ne c2, upd_ne c1, upd_ne c2]
/-- X(e), its object's context None -/
theorem pmkN {x f : Str} {C : Addr} {j : Nat} {p cpos : Pos} {ta : TA} (F : Kx X x C f j) (hr : Room (j + 1) X.A) (he : starEach [e] X.env = (false, eval e X.env) :: starEach [] X.env) (hpl : (backTo cpos (starEach [] X.env)).any (·.1) = false) (ha : PA X [e] ta) :
    L2N.PMk X (.Call (.Name x p) [e] [] cpos) (fun σ H Q => ta σ H fun vs H1 => ∃ v, vs = [v] ∧ ∀ dx, H1 dx = none → Q (.ref C) (some dx) (upd H1 dx (.xd [(f, v)]))) := fun pins s σ H Q I h => by
  obtain ⟨fI, fd, ps, iC, tI, F1, hb⟩ := F.ex
  obtain ⟨nm, q, N, bs, bm, sn, sub, ab, col, dd, k0, k1, k2, k3, k5, hC, hbm⟩ := F.cl.cls
  refine wpAny_Call_Name_kw (ld_glob I F.gl F.mg ?_ F.db)
  refine PySem.W.callWith_K (h₀ := X.base) I.ok.mod.kin F.cl.kC (thn (ha.run cpos pins s σ H _ I h) ?_) he hpl
  rintro us ⟨hp, g, dr, tk, os⟩ ⟨vs, H1, I1, r1, v, rfl, q1⟩
  refine ⟨I1.kIn, ?_⟩
  -- the object and its arguments stand behind all that was there
  let h2 := (hp.push (PySem.W.kdv_tup us)).push (PySem.HandSPX.excO C hp.objs.size)
  have far : hp.objs.size ≤ hp.objs.size + 1 := Nat.le_succ _
  have free : H1 (hp.objs.size + 1) = none := I1.hok.fresh far
  have old : ∀ b o, hp.get? b = some o → h2.get? b = some o := fun b o z => Heap.get?_push_of_some _ (Heap.get?_push_of_some _ z)
  have new : h2.get? (hp.objs.size + 1) = some (PySem.HandSPX.excO C hp.objs.size) := by heap_get
  have I2 : Inv X pins σ (upd H1 (hp.objs.size + 1) (exo (hp.objs.size + 1) C none)) ⟨h2, g, dr, tk, os⟩ := I1.laid (t' := tk) old far (exo_ok new)
  have r2 : Vals [V.ref (hp.objs.size + 1), v] (Value.ref (hp.objs.size + 1) :: us) := .cons rfl r1
  have sp : spXc C f [V.ref (hp.objs.size + 1), v] (upd H1 (hp.objs.size + 1) (exo (hp.objs.size + 1) C none)) (fun w H2 => w = .non ∧ ∃ dx, H2 = upd (upd (upd H1 (hp.objs.size + 1) (exo (hp.objs.size + 1) C none)) dx (exd dx [(f, v)])) (hp.objs.size + 1) (exo (hp.objs.size + 1) C (some dx)) ∧ H1 dx = none ∧ dx ≠ hp.objs.size + 1) fun _ _ _ => False :=
    ⟨_, v, rfl, upd_same, fun dx h1 h2 => ⟨rfl, dx, rfl, by rw [upd_ne h2] at h1; exact h1, h2⟩⟩
  have len1 : us.length = 1 := by rw [← r1.length]; rfl
  have len2 : (Value.ref (hp.objs.size + 1) :: us ++ []).length = ps.length := by rw [List.append_nil, ← r2.length]; exact F1.len _ _ _ _ sp
  have bd := hb _ (Value.ref (hp.objs.size + 1) :: us) I2.kIn len2
  rw [List.append_nil] at bd
  show wpAny _ _ (call
      (.ref C) us) _ _ _
  refine wpAny_call (PySem.HandSPX.call_own PySem.F.excBase_ValueError (fun Y => PySem.HandSPX.refsVE_contains Y bm hbm) (I1.kIn _ _ hC) (PySem.W.looks_findIn I1.kIn iC) (fun self => PySem.W.bind_fn I1.kIn self tI) (by rw [len1, sizeLine_eq]; omega) (codeAny_mono (F1.run _ X.stack _ _ _ _ _ _ _ (hr.make C us []) (I2.env0.make C us []) bd r2 sp) fun r s' hq => ?_))
  match r, hq with
  | .ok (.ret u), hq =>
    obtain ⟨w, H2, os2, bare2, un2, hok2, rv, ew, dx, eH, hd1, hne⟩ := hq
    subst ew
    obtain ⟨h3, g2, d2, t2, os'⟩ := s'
    have ea : H2 (hp.objs.size + 1) = some (exo (hp.objs.size + 1) C (some dx)) := by rw [eH]; exact upd_same
    have ed : H2 dx = some (exd dx [(f, v)]) := by rw [eH, upd_ne hne]; exact upd_same
    obtain ⟨t0, G, J, kG, ge, hoe, na⟩ := mk_end0 (d2 := d2) (t2 := t2) I1 far old un2 hok2 os2 bare2 ea ed hd1
    rw [eH, made_hp free hne] at J na
    exact ⟨rv, ⟨hp.objs.size + 1, _, _, ⟨G, g2, d2, t2, os'⟩, _, .ref C, some dx, rfl, J, kG, ge, hoe, ⟨rfl, rfl, fun vs hv => by cases hv; rfl⟩, rfl, rfl, na, rfl, bare2, raises_own F.cl.exC F.cl.tyC, q1 dx hd1⟩⟩
  | .ok .next, hq => exact False.elim hq
  | .ok .brk, hq => exact False.elim hq
  | .ok .cont, hq => exact False.elim hq
  | .error er, hq => exact False.elim hq
theorem xs_raiseN {x f : Str} {C : Addr} {j : Nat} {p cpos : Pos} (hc : X.calm = true) (tx : TxN X L0 kg) (F : Kx X x C f j) (hr : Room (j + 1) X.A) (he : starEach [e] X.env = (false, eval e X.env) :: starEach [] X.env) (hpl : (backTo cpos (starEach [] X.env)).any (·.1) = false)
    (h : WE X e Γ O fun d O1 => kg C [(f, d)] Γ O1) : WSx X L0 (.Raise (some (.Call (.Name x p) [e] [] cpos)) none pos) Γ O De := fun σ L H l0 hs hR E q => by
  obtain ⟨W, tk, tw⟩ := tx.ex
  refine toS (L2N.ps_raise hc tk (pmkN F hr he hpl (pau [e]))) ?_
  have ha : WA X [e] Γ O fun ds O1 => ∃ d, ds = [d] ∧ kg C [(f, d)] Γ O1 := wa_cons he (h.imp fun d O1 z => wa_nil ⟨d, rfl, z⟩)
  refine ha σ L H hs hR _ fun vs ds O1 L1 H1 h1 e1 i1 r1 => ?_
  obtain ⟨d, rfl, hk⟩ := h1
  obtain ⟨v, rfl, iv⟩ := i1.one'
  exact ⟨v, rfl, fun dx hdx => tw C dx [(f, v)] [(f, d)] Γ O1 σ L1 _ hk (l0.trans e1) (hs.mono e1) upd_same rfl (.cons iv .nil) (r1.aside hdx)⟩
end
/-! ### a class whose __init__ raises so -/
section
variable {base : Heap} {mg : Str → Option Value} {K : PySem.W.Frag} {w : World} {P : Program}
abbrev BxN (P : Program) (w : World) (K : PySem.W.Frag) (mg : Str → Option Value) (base : Heap) (N : List Str) (qual : Str) (st : Stmt) (f : Addr) (cdv : Value) (A : Around) (outer : List Env) (s : Shared) (H : Hp) (E : XK) : Cx :=
  cxOf (L2N.CX P w) P w K mg base N qual (defScope st) f cdv A outer s H E
/-- a class that may raise, to be made under any name -/
structure PcN (P : Program) (w : World) (K : PySem.W.Frag) (mg : Str → Option Value) (base : Heap) (C : Addr) (j : Nat) (S : SpD) : Prop where
  ex : ∃ (f : Addr) (fd : FuncData) (ps : List Str), FnG P w K mg base (L2N.CX P w) j f fd ps (spOf K S) ∧ Mk K C f ∧ Binds K fd ps []
theorem PcN.of {C : Addr} {qual : Str} {st : Stmt} {N ps : List Str} {j : Nat} {S : SpD} (T : Di K C qual st ps) (Sc : FnScope N ps (defScope st)) (len : ∀ ds O k kx, S ds O k kx → ds.length = ps.length)
    (h : ∀ (f : Addr) (cdv : Value) (A : Around) (outer : List Env) (s : Shared) (H : Hp) (E : XK), A.guards = some [] → Room j (A.deeper (envOfC qual (defScope st) s.heap.objs.size f cdv)) → ∀ L0 ds O k kx, S ds O k kx →
      TxN (BxN P w K mg base N qual st f cdv A outer s H E) L0 (fun C fds _ O' => kx C fds O') →
      WSsx (BxN P w K mg base N qual st f cdv A outer s H E) L0 (defBody st) (gst N.length ds) O { nx := fun _ O' => Ret k .non O', rt := Ret k }) : PcN P w K mg base C (j + 1) S := by
  obtain ⟨f, fd, hm, F, hb⟩ := T.ex
  refine ⟨f, fd, ps, FnG.body F Sc (fun vs H Q E ⟨ds, L, O, k, kx, hi, _, hs, _⟩ => hi.length.trans (len ds O k kx hs)) fun cdv A outer s H vs Q E hg hr hsp => ?_, hm, hb⟩
  obtain ⟨ds, L, O, k, kx, hi, hR, hS, hk, hx⟩ := hsp
  have tx : TxN (BxN P w K mg base N qual st f cdv A outer s H E) L (fun C fds _ O' => kx C fds O') :=
    ⟨⟨fun cls d _ H => E cls d H, L2N.takes_of rfl rfl rfl rfl, fun C d fs fds Γ O' σ L' H' a le _ b c e r => hx C d fs fds O' L' H' a le b c e r⟩⟩
  have z := h f cdv A outer s H E hg hr L ds O k kx hS tx (start N vs) L H (.refl L) (sl_start hi) hR { nx := fun _ H' => Q .non H', rt := Q }
    ⟨fun Γ' O' σ' L' H' a le _ r => fol_ret hk .non .non O' L' H' a le .non r, fol_ret hk, fun _ _ _ _ _ a => a.elim, fun _ _ _ _ _ a => a.elim⟩
  exact fun pins s' I => z pins s' I
end
section
variable {X : Cx} {L0 : Lg} {kg : KG} {Γ : Sg} {O : Ow} {k : KD} {De : DE} {e : Expr} {es : List Expr} {pos : Pos}
/-- a class under a local name, x(e, ..) -/
theorem we_makeL {x : Str} {i : Nat} {C : Addr} {j : Nat} {S : SpD} {p pos : Pos} (F : PcN X.prog X.w X.K X.mg X.base C j S) (tx : TxN X L0 kg) (hx : Va X x i) (hi : Γ[i]? = some (some (.own C))) (hgd : X.A.guards = some []) (hr : Room (j + 1) X.A) (he : starEach (e :: es) X.env = (false, eval e X.env) :: starEach es X.env) (hpl : (backTo pos (starEach es X.env)).any (·.1) = false)
    (h : WA X (e :: es) Γ O fun ds O1 => ∀ p, O1 p = none → S (.own p :: ds) (put O1 p (.ins C [])) (fun d O2 => d = .non ∧ Fz k (.own p) O2) fun Ce fds O2 => ∃ O3, DL.Sub O3 O2 ∧ kg Ce fds Γ O3) : WEx X L0 (.Call (.Name x p) (e :: es) [] pos) Γ O k := fun σ L H l0 hs hR Q q0 pins s I => by
  have q := fol_fz q0
  obtain ⟨W, tk, tw⟩ := tx.ex
  obtain ⟨f, fd, ps, G, M, hb⟩ := F.ex
  obtain ⟨vc, ec, ic⟩ := hs.at_ i _ hi
  obtain rfl := ic.own'
  refine wpAny_Call_Name_kw (thn ((we_var (k := fun d O1 => d = .own C ∧ O1 = O) (pos := p) hx hi ⟨rfl, rfl⟩) σ L H hs hR (fun v H1 => v = .ref C ∧ ∃ L1, L.le L1 ∧ R X.K L1 O H1) (fun v d O1 L1 H1 ⟨a, b⟩ le i1 r1 => by subst a; subst b; exact ⟨i1.own', L1, le, r1⟩) pins s I) fun u0 s0 ⟨v0, H0, I0, r0, e0, L00, le0, R0⟩ => ?_)
  subst e0
  cases r0
  refine PySem.W.callWith_K (h₀ := X.base) I.ok.mod.kin M.kp (thn (h σ L00 H0 (hs.mono le0) R0 (fun vs H1 => ∃ ds O1 L1, (∀ p, O1 p = none → S (.own p :: ds) (put O1 p (.ins C [])) (fun d O2 => d = .non ∧ Fz k (.own p) O2) fun Ce fds O2 => ∃ O3, DL.Sub O3 O2 ∧ kg Ce fds Γ O3) ∧ L.le L1 ∧ IsL X.K L1 vs ds ∧ R X.K L1 O1 H1) (fun vs ds O1 L1 H1 a b c d => ⟨ds, O1, L1, a, le0.trans b, c, d⟩) pos pins s0 I0)
    fun us s1 ⟨vs, H1, I1, rv, ds, O1, L1, h1, le1, is1, r1⟩ => ⟨I1.kIn, ?_⟩) he hpl
  have n1 : H1 (s1.heap.objs.size + 1) = none := I1.hok.fresh (Nat.le_succ _)
  have n2 : H1 s1.heap.objs.size = none := I1.hok.fresh (Nat.le_refl _)
  have ne : s1.heap.objs.size + 1 ≠ s1.heap.objs.size := Nat.succ_ne_self _
  have I2 := Inv.made (C := C) I1
  have ra := r1.aside (o := .own (s1.heap.objs.size + 1)) n2
  have n3 : upd H1 s1.heap.objs.size (.own (s1.heap.objs.size + 1)) (s1.heap.objs.size + 1) = none := by rw [upd_ne ne]; exact n1
  have rb := ra.newOwn (p := s1.heap.objs.size + 1) (o := .ins C s1.heap.objs.size []) (od := .ins C []) n3 ⟨_, [], upd_same, rfl, .nil⟩
  have sp : spOf X.K S (V.ref (s1.heap.objs.size + 1) :: vs) _ (fun v H2 => v = .non ∧ Q (.ref (s1.heap.objs.size + 1)) H2) (fun cls d H => W cls d σ H) :=
    ⟨_, L1, _, _, _, .cons (.own (s1.heap.objs.size + 1)) is1, rb, h1 _ (ra.free n3).2.1, fun v d O2 L2 H2 ⟨hd, hk⟩ le2 i2 r2 => by
      subst hd
      exact ⟨i2.non', q _ _ _ _ _ hk (le1.trans le2) (.own _) r2⟩, fun Ce d fs fds O2 L2 H2 ⟨O3, sub, hk⟩ le2 a b c r2 =>
      tw Ce d fs fds Γ O3 σ L2 H2 hk (l0.trans (le1.trans le2)) (hs.mono (le1.trans le2)) a b c (r2.sub sub)⟩
  have r2 : Vals (V.ref (s1.heap.objs.size + 1) :: vs) (Value.ref (s1.heap.objs.size + 1) :: us) := .cons rfl rv
  have hl : (Value.ref (s1.heap.objs.size + 1) :: us ++ []).length = ps.length := by
    rw [List.append_nil, ← r2.length]; exact G.ln _ _ _ _ sp
  refine wpAny_call (make_map (f := f) I1.kIn M.makes M.init (beq_iff_eq.mp M.fn) (codeAny_mono (G.go _ X.stack _ _ ⟨Value.ref (s1.heap.objs.size + 1) :: us, []⟩ (Value.ref (s1.heap.objs.size + 1) :: us ++ []) _ _ _ (make_guards hgd) (hr.make C us []) (I2.env0.make C us []) (hb _ _ I2.kIn hl) (by rw [List.append_nil]; exact r2) sp) fun r s' hq => ?_))
  match r, hq with
  | .ok (.ret u), hq =>
    obtain ⟨v, H', I3, rv', ev, q3⟩ := I2.after hq
    subst ev
    exact ⟨rv', ⟨V.ref (s1.heap.objs.size + 1), H', I3, rfl, q3⟩⟩
  | .ok .next, hq => exact hq.elim
  | .ok .brk, hq => exact hq.elim
  | .ok .cont, hq => exact hq.elim
  | .error e, hq => exact tk _ _ (L2N.XE.of_call I2 (fun _ _ _ h => h) hq)
/-- an exception class with one argument, made while another one is handled -/
structure KxH (X : Cx) (x : Str) (C : Addr) (f : Str) (j : Nat) : Prop where
  cl : OexC X.K C
  ex : ∃ (fI : Addr) (fd : FuncData) (ps : List Str), PySem.W.findIn X.K (.ref C) "__init__" = some (some (.ref fI)) ∧ PySem.W.typeIn X.K (.ref fI) = some (.type "function") ∧ FnH X.prog X.w X.K X.mg X.base CX0 j fI fd ps (spXc C f) ∧ Binds X.K fd ps []
  mg : X.mg x = some (.ref C)
  gl : Gl X x
  db : (x == ("__debug__" : Str)) = false
/-- raise x(e) from None, in an except suite -/
theorem xs_raiseHN {x f : Str} {C : Addr} {j jj : Nat} {p cpos npos : Pos} (hc : HotC X) (tx : Tx X L0 kg) (F : KxH X x C f j) (hr : RoomH (j + 1) X.A) (he : starEach [e] X.env = (false, eval e X.env) :: starEach [] X.env) (hpl : (backTo cpos (starEach [] X.env)).any (·.1) = false)
    (h : WE X e Γ O fun d O1 => kg C [(f, d)] Γ O1) : WSx X L0 (.Raise (some (.Call (.Name x p) [e] [] cpos)) (some (.Constant .none jj npos)) pos) Γ O De := fun σ L H l0 hs hR E q => by
  obtain ⟨W, tk, tw⟩ := tx.ex
  obtain ⟨fI, fd, ps, iC, tI, F1, hb⟩ := F.ex
  refine toS (ps_raiseHN hc tk (pmk5_oexH F.cl iC tI F1 hr hc hb pass0 F.gl F.mg (pau [e]) F.db he hpl)) ?_
  have ha : WA X [e] Γ O fun ds O1 => ∃ d, ds = [d] ∧ kg C [(f, d)] Γ O1 := wa_cons he (h.imp fun d O1 z => wa_nil ⟨d, rfl, z⟩)
  refine ha σ L H hs hR _ fun vs ds O1 L1 H1 h1 e1 i1 r1 => ?_
  obtain ⟨d, rfl, hk⟩ := h1
  obtain ⟨v, rfl, iv⟩ := i1.one'
  refine ⟨by show 1 ≤ 1000; decide, fun a ha1 => ⟨a, v, rfl, upd_same, fun dx hdx hne => ?_⟩⟩
  have h1dx : H1 dx = none := by rw [upd_ne hne] at hdx; exact hdx
  refine ⟨rfl, dx, [(f, v)], upd_same, ?_, h1dx, ?_⟩
  · rw [upd_ne hne]; exact upd_same
  rw [made_hp ha1 hne]
  exact tw C dx [(f, v)] [(f, d)] Γ O1 σ L1 _ hk (l0.trans e1) (hs.mono e1) upd_same rfl (.cons iv .nil) (r1.aside h1dx)
/-- try: body / except x: suite, where the suite may raise; kg: what the body may let out, all of it caught; kgo: what the suite may let out -/
theorem xs_tryN {x : Str} {c : Value} {body suite : List Stmt} {b₀ : Stmt} {np pos' : Pos} {kgo : KG} (kg : KG) (tx : Tx X L0 kgo) (hs : X.stack = X.env :: X.outer) (hf : X.env.frame = some X.env.locals) (hc : Names X x c) (hpa : ∀ hd : Option Value, PassesOwnAt (model X.prog X.w) (X.A.mark hd) X.A X.env X.xe)
    (hb : ∀ (L1 : Lg) (pn : List (Addr × Obj)) (xe : Value → Shared → Prop), L0.le L1 → PassesOwn (model X.prog X.w) X.A X.env xe → TxN (X.tr pn xe) L1 kg → WSsx (X.tr pn xe) L1 body Γ O De)
    (hh : ∀ C fds Γ' O', kg C fds Γ' O' → PySem.W.exmOne X.K (.ref C) c = some true ∧ ∀ (L1 : Lg) (a dd : Addr) (oe : Obj) (pn : List (Addr × Obj)), L0.le L1 → L2N.Zn (.ref C) (some dd) oe → (∃ vs, oe.data = .fields vs) → Tx (suiteX X a ((a, oe) :: pn)) L1 kgo → HotC (suiteX X a ((a, oe) :: pn)) →
      WSsx (suiteX X a ((a, oe) :: pn)) L1 (b₀ :: suite) Γ' O' De) :
    WSx X L0 (.Try body [.ExceptHandler (some (.Name x np)) none (b₀ :: suite) pos'] [] [] pos) Γ O De := fun σ L H l0 hsl hr E q => by
  obtain ⟨Wo, tko, two⟩ := tx.ex
  let tb : WX → TS := fun W D σ H => ∀ (pn : List (Addr × Obj)) (xe : Value → Shared → Prop), L2N.Takes (X.tr pn xe) W → PassesOwn (model X.prog X.w) X.A X.env xe → uSs (X.tr pn xe) body D σ H
  let ts : Addr → Value → Option Addr → TS := fun a cls d D σ H => ∀ (oe : Obj) (pn : List (Addr × Obj)), L2N.Zn cls d oe → (∃ vs, oe.data = .fields vs) → L2.Takes (suiteX X a ((a, oe) :: pn)) Wo → HotC (suiteX X a ((a, oe) :: pn)) → uSs (suiteX X a ((a, oe) :: pn)) (b₀ :: suite) D σ H
  refine toS (ps_try_onlyX (tb := tb) (ts := ts) (Wout := Wo) hs hf hc hpa tko (fun W pn xe tk _ po => ⟨fun pins s σ H D I h => h pn xe tk po pins s I⟩) (fun a oe cls d pn hz hv tk hot => ⟨fun pins s σ H D I h => h oe pn hz hv tk hot pins s I⟩)) ?_
  intro pn xe tk po
  have txn : TxN (X.tr pn xe) L kg := ⟨⟨_, tk, fun C d fs fds Γ' O' σ' L' H' hk le hsl' hd e1 e2 r => by
    obtain ⟨z1, z2⟩ := hh C fds Γ' O' hk
    refine ⟨true, z1, fun _ a ha oe pn' hz hv tkS hot => ?_, fun z => by cases z⟩
    exact z2 L' a d oe pn' (l0.trans le) hz hv ⟨⟨Wo, tkS, fun C2 d2 fs2 fds2 Γ2 O2 σ2 L2 H2 hk2 le2 => two C2 d2 fs2 fds2 Γ2 O2 σ2 L2 H2 hk2 ((l0.trans le).trans le2)⟩⟩ hot σ' L' H' (.refl L') hsl' r _ (q.le le)⟩⟩
  exact hb L pn xe l0 po txn σ L H (.refl L) hsl hr E q
end
end DL
/-! DL, part U: splits, inserts, written dicts, unpacked lists, raising calls within expressions -/
namespace DL
open L2 PySem
open PySem.Spec PyProof.Rows
section
variable {X : Cx} {Γ : Sg} {O : Ow} {k : KD}
theorem wm_insert {p : Addr} {ds : List D} {i : Int} {d : D} (ho : O p = some (.lst ds)) (hz : ds.length < sizeLine) (h0 : 0 ≤ i) (h1 : i < 2 ^ 63) (h : k .non (put O p (.lst (ds.take i.toNat ++ [d] ++ ds.drop i.toNat)))) : WM X "list.insert" (.own p) [.int i, d] O k := fun vx vs L H ix is hr Q q => by
  obtain ⟨v, u, rfl, i1, i2⟩ := is.two'
  obtain ⟨xs, g1, g2⟩ := own_lst hr ho
  refine toM mt_insert ⟨p, xs, i, u, ix.own', by rw [i1.int'], g1, by rw [g2.length]; exact hz, h0, h1, ?_⟩
  exact q _ _ _ _ _ h (.refl L) .non (hr.change ho ⟨_, upd_same, ((g2.take _).append (.cons i2 .nil)).append (g2.drop _)⟩)
/-- a written dict with text keys, at d -/
structure Kd (X : Cx) (d : Addr) (kvs : List (Str × D)) : Prop where
  ex : ∃ (es : Array DictEntry) (n : Nat), KDict X.K X.w d es n
  at_ : ∀ z : Str, match kvs.lookup z with
    | some e => ∃ (u : Value) (v : V), PySem.W.nsIn X.K d z = some (some u) ∧ RelV v u ∧ ∀ L, Is X.K L v e
    | none => PySem.W.nsIn X.K d z = some none
theorem wo_inKd {d : Addr} {kvs : List (Str × D)} {z : Str} (F : Kd X d kvs) (h : k (.bl (kvs.lookup z).isSome) O) : WO X (compareOp .In) (.str z) (.own d) O k := fun vx vy L H ix iy hr Q q => by
  obtain ⟨es, n, D⟩ := F.ex
  have a := F.at_ z
  cases e : kvs.lookup z with
  | some y =>
    rw [e] at a h
    obtain ⟨u, v, e1, _, _⟩ := a
    exact toO (op_in_kd D) ⟨z, some u, ix.str', iy.own', e1, q _ _ _ _ _ h (.refl L) (.bl _) hr⟩
  | none =>
    rw [e] at a h
    exact toO (op_in_kd D) ⟨z, none, ix.str', iy.own', a, q _ _ _ _ _ h (.refl L) (.bl _) hr⟩
theorem wo_ninKd {d : Addr} {kvs : List (Str × D)} {z : Str} (F : Kd X d kvs) (h : k (.bl (!(kvs.lookup z).isSome)) O) : WO X (compareOp .NotIn) (.str z) (.own d) O k := fun vx vy L H ix iy hr Q q => by
  obtain ⟨es, n, D⟩ := F.ex
  have a := F.at_ z
  cases e : kvs.lookup z with
  | some y =>
    rw [e] at a h
    obtain ⟨u, v, e1, _, _⟩ := a
    exact toO (op_notIn_kd D) ⟨z, some u, ix.str', iy.own', e1, q _ _ _ _ _ h (.refl L) (.bl _) hr⟩
  | none =>
    rw [e] at a h
    exact toO (op_notIn_kd D) ⟨z, none, ix.str', iy.own', a, q _ _ _ _ _ h (.refl L) (.bl _) hr⟩
theorem wi_kd {d : Addr} {kvs : List (Str × D)} {z : Str} {e : D} (F : Kd X d kvs) (he : kvs.lookup z = some e) (h : k e O) : WI X (.own d) (.str z) O k := fun vx vy L H ix iy hr Q q => by
  obtain ⟨es, n, D⟩ := F.ex
  have a := F.at_ z
  rw [he] at a
  obtain ⟨u, v, e1, r, i⟩ := a
  exact toI ix_kdict ⟨d, z, v, ix.own', iy.str', ⟨es, n, u, D.at_, D.lit, e1, r⟩, q _ _ _ _ _ h (.refl L) (i L) hr⟩
/-- a, b, .. = a list of so many -/
theorem wg_lst {es : List Expr} {kk : Nat} {ds : List D} {pos} {kn : Sg → Ow → Prop} (hc : X.calm = true) (hn : (assignEach es X.env).length = ds.length) (hst : (assignEach es X.env).findIdx? (·.1) = none) (h : WGs X es ds Γ O kn) : WG X (.Tuple es kk pos) (.lst ds) Γ O kn := fun v σ L H iv hs hr q hq => by
  obtain ⟨a, vs, rfl, s, t⟩ := iv.lst'
  refine toG (pg_lst (n := ds.length) hc (pgsu es) hn hst) ⟨a, vs, rfl, .inl (.inl (hr.hp _ _ s)), t.length, ?_⟩
  exact h vs σ L H t hs hr q hq
/-- a call that lets nothing out -/
theorem txF {L0 : Lg} : Tx X L0 (fun _ _ _ _ => False) := ⟨⟨fun _ _ _ _ => False, fun u s' ⟨_, _, _, _, _, _, _, _, _, _, _, _, _, _, _, _, w⟩ => w.elim, fun _ _ _ _ _ _ _ _ _ h => h.elim⟩⟩
theorem we_ofX {e : Expr} (h : ∀ L0, WEx X L0 e Γ O k) : WE X e Γ O k := fun σ L H hs hr Q q => h L σ L H (.refl L) hs hr Q q
end
section
variable {X : Cx} {L0 : Lg} {Γ : Sg} {O : Ow} {k : KD} {e : Expr} {p pos : Pos}
/-- T(e), e may raise -/
theorem ex_callT1 {x : Str} {T : String} (B : Bt X x T) (he : starEach [e] X.env = (false, eval e X.env) :: starEach [] X.env) (hpl : (backTo pos (starEach [] X.env)).any (·.1) = false) (h : WEx X L0 e Γ O fun d O1 => DL.WC X (.type T) [d] O1 k) : WEx X L0 (.Call (.Name x p) [e] [] pos) Γ O k := fun σ L H l0 hs hr Q q => by
  refine toE (pe_callTy (cu _) B.hg B.hm B.hv (pau _) B.hn B.hd he hpl) (toA (pa_cons (pu e) (pau []) he) ?_)
  refine h σ L H l0 hs hr _ fun v d O1 L1 H1 h1 e1 i1 r1 => ?_
  refine toA pa_nil ?_
  exact h1 [v] L1 H1 (.cons i1 .nil) r1 Q (q.le e1)
end
end DL
/-! DL, part V: a lambda without parameters, handed to a def that calls it -/
namespace DL
open L2 PySem
open PySem.Spec PyProof.Rows
open LamX (CodeO TabB LamS lamEnv lamCx)
/-- P is the only table, of the name q -/
structure Tb (O : Ow) (P : Addr) (q : Str) : Prop where
  at_ : O P = some (.tab q)
/-- the lambda's object -/
abbrev lamO (X : Cx) (params : Arguments) (body : Expr) (scope : Scope) (pm : Value) (c' : Addr) (ctv : Value) : Obj :=
  PySem.W.kla_obj "<lambda>" (X.env.qual ++ "<lambda>") params body scope (cloFrom X.env.cells scope.names []) pm c' ctv
section
variable {X : Cx} {pins : List (Addr ×
    Obj)} {σ : L2.St} {H : Hp} {s : Shared}
/-- a lambda is made: its code is in the table, or comes to it -/
theorem lam_new {G : Addr → Prop} {c P : Addr} {q : Str} {ps : Array Value} {params : Arguments} {body : Expr} {scope : Scope} {pos : Pos} {E Q : Value → Shared → Prop} (I : Inv X pins σ H s) (B : TabB X.base X.mg c P) (hcode : X.env.code = .ref c) (hq : q = X.env.qual ++ "<lambda>")
    (hP : H P = some (.tbl ps)) (ht : TriplesOk ps.toList) (ha : ∀ (p' : Pos) (cv : Value), codeAmong p' ps.toList = some cv → ∃ c', cv = .ref c' ∧ G c' ∧ H c' = some (CodeO c' q)) (hdef : defaultsOf params X.env = ([], [])) (L : LamS X.env.scope scope)
    (h : ∀ (f c' : Addr) (pm ctv : Value) (H1 : Hp) (s' : Shared), Inv X pins σ H1 s' → ((H1 = H ∧ G c' ∧ H c' = some (CodeO c' q)) ∨ (H c' = none ∧ H1 = upd (upd H P (.tbl (ps ++ #[rawInt pos.line, rawInt pos.col, .ref c']))) c' (CodeO c' q))) →
      s'.heap.get? f = some (lamO X params body scope pm c' ctv) → H1 f = none → f ∉ frs X.stack → Q (.ref f) s') :
    wpAny (model X.prog X.w) X.A (eval (.Lambda
        params body scope pos) X.env) Q E s := by
  subst hq
  have free := L.has I.ok
  have far : ∀ f, s.heap.objs.size ≤ f → f ∉ frs X.stack := fun f hf z => by
    rcases List.mem_cons.mp (I.stkSub
        _ z) with e | e
    · have lt := I.lt
      rw [← e] at lt
      exact absurd lt (Nat.not_lt.mpr hf)
    · exact I.nofs hf e
  have bP := B.bm.keeps I.bk
  have gP := I.hok P _ hP
  refine PySem.W.kla_eval
      hdef ?_
  cases hc : codeAmong
      pos ps.toList with
  | some cv =>
    obtain ⟨c', rfl, g, hco⟩ := ha pos cv hc
    refine PySem.W.kla_makeFunctionHit (mg := X.mg) (c := c) (P := P) (ps := ps) (closure_ok free) I.ok.glob (I.mod.glob.keeps I.bk) hcode (B.code.keeps I.bk) gP ht hc bP fun ctv h' tk kp hsz => ?_
    exact h h'.objs.size c' ((X.mg "__name__").getD .none) ctv H _ (I.kept fun b o e => Heap.get?_push_of_some _ (kp b o e)) (.inl ⟨rfl, g, hco⟩) (Heap.get?_push_size _ rfl) (I.hok.fresh hsz) (far _ hsz)
  | none =>
    refine PySem.W.kla_makeFunction (mg := X.mg) (c := c) (P := P) (ps := ps) (closure_ok free) I.ok.glob (I.mod.glob.keeps I.bk) hcode (B.code.keeps I.bk) gP ht hc B.gP bP fun c' ctv h' tk kp hge hlt hrec htb => ?_
    obtain ⟨c2, oc, vs, t,
        e2, hoc, hd, hv⟩ := hrec
    cases e2
    have nC : H c' = none
        := I.hok.fresh hge
    have big : s.heap.objs.size ≤ h'.objs.size := Nat.le_trans hge (Nat.le_of_lt hlt)
    have J := LamX.inv_table (t' := tk) (more := #[rawInt pos.line, rawInt pos.col, .ref c']) (h' := h'.push (lamO X params body scope ((X.mg "__name__").getD .none) c' ctv)) I hP
      (fun b o hb e => Heap.get?_push_of_some _ (kp b o hb e)) (Heap.get?_push_of_some _ htb) hge ⟨oc, vs, t, Heap.get?_push_of_some _ hoc, hd, hv⟩
    refine h h'.objs.size c' ((X.mg "__name__").getD .none) ctv _ _ J (.inr ⟨nC, rfl⟩) (Heap.get?_push_size _ rfl) ?_ (far _ big)
    have n1 : h'.objs.size ≠ c' := Nat.ne_of_gt hlt
    have n2 : h'.objs.size ≠ P := Nat.ne_of_gt (Nat.lt_of_lt_of_le (Heap.lt_size gP) big)
    rw [upd_ne n1, upd_ne n2]
    exact I.hok.fresh big
/-- .. over data -/
theorem R.lam {K : PySem.W.Frag} {L : Lg} {O : Ow} {H1 : Hp} {P c' : Addr} {q : Str} {ps : Array Value} {pos : Pos} (r : R K L O H) (hO : O P = some (.tab q)) (hP : H P = some (.tbl ps)) (ht : TriplesOk ps.toList) (ha : ∀ (p' : Pos) (cv : Value), codeAmong p' ps.toList = some cv → ∃ c', cv = .ref c' ∧ L.hp c' = some (CodeO c' q))
    (h : (H1 = H ∧ L.hp c' = some (CodeO c' q) ∧ H c' = some (CodeO c' q)) ∨ (H c' = none ∧ H1 = upd (upd H P (.tbl (ps ++ #[rawInt pos.line, rawInt pos.col, .ref c']))) c' (CodeO c' q))) :
    ∃ L1 : Lg, L.le L1 ∧ L1.hp c' = some (CodeO c' q) ∧ R K L1 O H1 := by
  rcases h with ⟨rfl, g, _⟩ | ⟨nC, rfl⟩
  · exact ⟨L, .refl L, g, r⟩
  · obtain ⟨f1, _⟩ := r.free nC
    have le := Lg.le_add (L := L) (o := CodeO c' q) f1
    have r1 : R K (L.add c' (CodeO c' q)) O (upd H c' (CodeO c' q)) := r.new nC
    have ne : P ≠ c' := fun z => by rw [z, nC] at hP; cases hP
    have eL : (ps ++ #[rawInt pos.line, rawInt pos.col,
        .ref c']).toList = ps.toList ++ [rawInt pos.line, rawInt pos.col, .ref c'] := by simp
    have r2 := r1.change (p := P) (o := .tbl (ps ++ #[rawInt pos.line, rawInt pos.col, .ref c'])) (od' := .tab q) hO ⟨_, upd_same, by rw [eL]; exact PySem.TriplesOk_snoc _ _ _ _ ht, fun p' cv hcv => by
      rw [eL] at hcv
      rcases LamX.among_app _ ht hcv with z | z
      · obtain ⟨c0, e1,
            e2⟩ := ha p' cv z
        exact ⟨c0, e1, le.hp _ _ e2⟩
      · exact ⟨c', z, upd_same⟩⟩
    rw [put_back hO] at r2
    refine ⟨_, le, upd_same, ?_⟩
    have e : upd (upd H c' (CodeO c' q)) P (.tbl (ps ++ #[rawInt pos.line, rawInt pos.col, .ref c'])) = upd (upd H P (.tbl (ps ++ #[rawInt pos.line, rawInt pos.col, .ref c']))) c' (CodeO c' q) := by
      funext b
      by_cases h1 : b = P
      · subst h1
        rw [upd_same, upd_ne ne, upd_same]
      · rw [upd_ne h1]
        by_cases h2 : b = c'
        · subst h2
          rw [upd_same, upd_same]
        · rw [upd_ne h2, upd_ne h2, upd_ne h1]
    rw [← e]
    exact r2
end
/-! ### the def that got the lambda, and its call -/
/-- a(), in a def's body: what the lambda promises -/
def Act (Z : Cx) (f : Addr) (a : Str) (S : SpD) (L0 : Lg) : Prop := ∀ (L1 : Lg) (kg : KG) (Γ : Sg) (O : Ow) (k : KD) (p1 p2 : Pos), L0.le L1 → Tx Z L1 kg → Γ[0]? = some (some (.own f)) → S [] O k (fun C fds O' => kg C fds Γ O') → WEx Z L1 (.Call (.Name a p1) [] [] p2) Γ O k
section
variable {X : Cx} {pins : List (Addr × Obj)} {σ : L2.St} {H : Hp} {s : Shared} {L : Lg} {Γ : Sg}
theorem act_mk {Ng : List Str} {x a : Str} {st : Stmt} {g f c' : Addr} {cdg pm ctv : Value} {params : Arguments} {body : Expr} {scope : Scope} {k : Nat} {S : SpD} {Eg : XK} {pn : List (Addr × Obj)} {xe : Value → Shared → Prop}
    (I : Inv X pins σ H s) (Ls : LamS X.env.scope scope) (hsl : Sl X.K L σ Γ) (hco : L.hp c' = some (CodeO c' (X.env.qual ++ "<lambda>")))
    (hf : s.heap.get? f = some (lamO X params body scope pm c' ctv)) (hfn : H f = none) (hfr : f ∉ frs X.stack)
    (hbind : bindArgs (PySem.W.kla_fn "<lambda>" (X.env.qual ++ "<lambda>") params body scope (cloFrom X.env.cells scope.names []) pm (.ref c') ctv) ⟨[],
        []⟩ = pure [])
    (hgd : X.A.guards = some []) (hr : Room (k + 1) (X.A.deeper (envOfC x (defScope st) s.heap.objs.size g cdg)))
    (hbody : ∀ (A : Around) (outer : List Env) (s : Shared) (H : Hp) (E : XK), A.guards = some [] → Room k (A.deeper (lamEnv X scope s.heap.objs.size f c')) → ∀ (L0 : Lg) (O : Ow) (k : KD) (kx : KX), S [] O k kx →
      Tx (lamCx X A outer s H E scope f c') L0 (fun C fds _ O' => kx C fds O') → WEx (lamCx X A outer s H E scope f c') L0 body Γ O k)
    (hN : Ng[0]? = some a) (hv : Vis (defScope st) a) (hd : (a == ("__debug__" : Str)) = false) (hcd : (a == ("__classdict__" : Str)) = false) :
    Act ((Bo X.prog X.w X.K X.mg X.base Ng x st g cdg X.A X.stack s H Eg).tr pn xe) f a S L := by
  intro L1 kg ΓZ O kk p1 p2 l1 tx hΓ hS σZ LZ HZ lZ hslZ hRZ Q q pinsZ sZ IZ
  obtain ⟨W, tk, tw⟩ := tx.ex
  have lk : Va ((Bo X.prog X.w X.K X.mg X.base Ng x st g cdg X.A X.stack s H Eg).tr pn xe) a 0 := ⟨hN, hv, hd, hcd⟩
  refine wpAny_Call_Name_kw (thn ((we_var (k := fun d O1 => d = .own f ∧ O1 = O) (pos := p1) lk hΓ ⟨rfl, rfl⟩) σZ LZ HZ hslZ hRZ (fun v H1 => v = .ref f ∧ ∃ M2, LZ.le M2 ∧ R X.K M2 O H1) (fun v d O1 M2 H1 ⟨e1, e2⟩ le i1 r1 => by subst e1; subst e2; exact ⟨i1.own', M2, le, r1⟩) pinsZ sZ IZ) fun u s1 ⟨v, H1, I1, rv, ev, M2, le2, r2⟩ => ?_)
  subst ev
  obtain rfl : u = Value.ref f := rv
  have of1 : s1.heap.get? f = some (lamO X params body scope pm c' ctv) := I1.base.keep f _ hf hfn hfr (fun z => nomatch (show f ∈ ([] : List Addr) from z))
  refine PySem.W.callWith_F0 ⟨_,
      _, _, _, of1⟩ ?_
  have hc1 : H1 c' = some (CodeO c' (X.env.qual ++ "<lambda>")) := r2.hp _ _ (((l1.trans lZ).trans le2).hp _ _ hco)
  obtain ⟨⟨oc, vs, t, hoc, hdc, hvc⟩, _, _⟩ := I1.hok c' _ hc1
  let A1 := X.A.deeper (envOfC x (defScope st) s.heap.objs.size g cdg)
  let E1 : XK := fun cls d H' => W cls d σZ H'
  have rc : codeAny (model X.prog X.w) A1 (.call (.ref f) ⟨[], []⟩) (CR (L2.CX X.prog X.w) (envOfC x (defScope st) s.heap.objs.size g cdg :: X.stack) X.prog X.w H1 s1 Q E1) s1 := by
    refine PySem.W.kla_callFunE hr.depth of1 rfl Ls.co Ls.gen rfl ⟨c', oc, vs, t, rfl, hoc, hdc, hvc⟩ ?_
    rw [hbind]
    refine wpAny_pure (wpAny_newFunctionEnv (fun y hy => (Ls.own y hy).2) (fun y hy => absurd hy (by simp)) (fun h₁ hns hsb => ⟨I1.nolimit.fresh _ hsb, ?_⟩) Ls.kind)
    show codeAny _ _ (.expr body (lamEnv
        X scope s1.heap.objs.size f c')) _ _
    have kp : ∀ b o, s1.heap.get? b = some o → h₁.get? b = some o := fun b o e => hsb.extBut b o (Nat.ne_of_lt
        (Heap.lt_size e)) (Heap.get?_push_of_some _ e)
    have J : Inv (lamCx X A1 (envOfC x (defScope st) s.heap.objs.size g cdg :: X.stack) s1 H1 E1 scope f c') [] σ H1 { s1 with heap := h₁, toks := s1.toks + ([] : List (Str × Value)).length } :=
      LamX.lam_start2 I Ls I1.env0 hr.hd I1.base hns kp
    have txl : Tx (lamCx X A1 (envOfC x (defScope st) s.heap.objs.size g cdg :: X.stack) s1 H1 E1 scope f c') M2 (fun C fds _ O' => kg C fds ΓZ O') :=
      ⟨⟨fun cls d _ H' => E1 cls d H', takes_of rfl rfl rfl rfl, fun C d fs fds Γ' O' σ' L' H' hk le _ hd e1 e2 r =>
        tw C d fs fds ΓZ O' σZ L' H' hk ((lZ.trans le2).trans le) (hslZ.mono (le2.trans le)) hd e1 e2 r⟩⟩
    have hb := hbody A1 (envOfC x (defScope st) s.heap.objs.size g cdg :: X.stack) s1 H1 E1 hgd (hr.deeper _) M2 O kk _ hS txl σ M2 H1 (.refl _) (hsl.mono ((l1.trans lZ).trans le2)) r2 Q (q.le le2)
    refine PySem.W.kla_codeExpr (wpAny_mono (hb [] _ J) (fun v s' hq => ?_) fun e s' hq => hq)
    obtain ⟨w', H', J', rv, qq⟩ := hq
    exact ⟨w', H', J'.os, J'.bare, J'.base, J'.hok, rv, qq⟩
  refine wpAny_call (codeAny_mono
      rc fun r s' hq => ?_)
  match r, hq with
  | .ok (.ret u), hq => exact I1.after hq
  | .ok .next, hq => exact hq.elim
  | .ok .brk, hq => exact hq.elim
  | .ok .cont, hq => exact hq.elim
  | .error e, hq => exact tk _ _ (XE.of_call I1 (fun _ _ _ h => h) hq)
/-- x(lambda: body) -/
theorem we_lamcall {x a q : Str} {st : Stmt} {Ng : List Str} {P c : Addr} {S : SpD} {j : Nat} {O : Ow} {k : KD} {params : Arguments} {body : Expr} {scope : Scope} {p lpos pos : Pos} (T : Df X.K X.mg x st [a]) (gl : Gl X x) (db : (x == ("__debug__" : Str)) = false)
    (Sc : FnScope Ng [a] (defScope st)) (hN : Ng[0]? = some a) (hv : Vis (defScope st) a) (hd : (a == ("__debug__" : Str)) = false) (hcd : (a == ("__classdict__" : Str)) = false)
    (hgd : X.A.guards = some []) (hr : Room (j + 2) X.A) (B : TabB X.base X.mg c P) (hcode : X.env.code = .ref c) (hq : q = X.env.qual ++ "<lambda>") (hO : O P = some (.tab q)) (Ls : LamS X.env.scope scope) (hdef : defaultsOf params X.env = ([], []))
    (hbind : ∀ (q : Str) (cl : List (Str × Addr)) (pm cv ctv : Value),
        bindArgs (PySem.W.kla_fn "<lambda>" q params body scope cl pm cv ctv) ⟨[], []⟩ = pure [])
    (hbody : ∀ (A : Around) (outer : List Env) (s : Shared) (H : Hp) (E : XK) (f c' : Addr), A.guards = some [] → Room j (A.deeper (lamEnv X scope s.heap.objs.size f c')) → ∀ (L0 : Lg) (O : Ow) (k : KD) (kx : KX), S [] O k kx →
      Tx (lamCx X A outer s H E scope f c') L0 (fun C fds _ O' => kx C fds O') → WEx (lamCx X A outer s H E scope f c') L0 body Γ O k)
    (hG : ∀ (g f : Addr) (cdv : Value) (A : Around) (outer : List Env) (s : Shared) (H : Hp) (E : XK) (L0 : Lg), A.guards = some [] → Room (j + 1) (A.deeper (envOfC x (defScope st) s.heap.objs.size g cdv)) →
      (∀ pn xe, Act ((Bo X.prog X.w X.K X.mg X.base Ng x st g cdv A outer s H E).tr pn xe) f a S L0) →
      WSsx (Bo X.prog X.w X.K X.mg X.base Ng x st g cdv A outer s H E) L0 (defBody st) (gst Ng.length [.own f]) O { nx := fun _ O' => Ret k .non O', rt := Ret k }) :
    WE X (.Call (.Name x p) [.Lambda params body scope lpos] [] pos) Γ O k := fun σ L H hsl hR Q q0 pins s I => by
  obtain ⟨g, fd, hm, F, hb, hk⟩ := T.ex
  refine wpAny_Call_Name_kw (ld_glob I gl hm ?_ db)
  refine PySem.W.callWith_K (h₀ :=
      X.base) I.ok.mod.kin hk ?_ (by rfl) (by rfl)
  show wpAny _ _ (spliced ((false,
      eval (.Lambda params body scope lpos) X.env) :: backTo pos (starEach [] X.env))) _ _ s
  obtain ⟨_, ps, hP, ht, ha⟩ := hR.ow _ _ hO
  refine Calls.spliced_cons (lam_new (G := fun c' => L.hp c' = some (CodeO c' q)) I B hcode hq hP ht (fun p' cv hc => by
    obtain ⟨c', e1, e2⟩ := ha p' cv hc
    exact ⟨c', e1, e2, hR.hp _ _ e2⟩) hdef Ls fun f c' pm ctv H1 s' I1 hH hf hfn hfr => ?_)
  obtain ⟨L1, le1, hco, r1⟩ := hR.lam hO hP ht ha hH
  refine Calls.spliced_nil ⟨I1.kIn,
      ?_⟩
  obtain ⟨_, _, _, _, _, _, _, cdv, _, _, ef, lk, hcd2⟩ := F.ex
  rw [(fn_same st).1, (fn_same st).2.1, (fn_same st).2.2] at ef
  subst ef
  have rc : codeAny (model X.prog X.w) X.A (.call (.ref g) ⟨[.ref f], []⟩) (CR CX0 X.stack X.prog X.w H1 s' Q (fun _ _ _ => False)) s' := by
    refine LamX.run_ofS (N := Ng) (ps := [a]) (us := [.ref f]) (vs := [.ref f]) lk hcd2 Sc hr I1.env0 (hb s' [.ref f] I1.kIn rfl) (.cons rfl .nil) rfl fun hr' => ?_
    have act : ∀ pn xe, Act ((Bo X.prog X.w X.K X.mg X.base Ng x st g cdv X.A X.stack s' H1 (fun _ _ _ => False)).tr pn xe) f a S L1 := fun pn xe =>
      act_mk I1 Ls (hsl.mono le1) (by rw [hco, hq]) hf hfn hfr (hbind _ _ _ _ _) hgd hr' (fun A outer s H E hg hr2 L0 O k kx h0 tx => hbody A outer s H E f c' hg hr2 L0 O k kx h0 tx) hN hv hd hcd
    have z := hG g f cdv X.A X.stack s' H1 (fun _ _ _ => False) L1 hgd hr' act (start Ng [.ref f]) L1 H1 (.refl _) (sl_start (.cons (.own f) .nil)) r1 { nx := fun _ H' => Q .non H', rt := Q }
      ⟨fun Γ' O' σ' L' H' a le _ r => fol_ret (q0.le le1) .non .non O' L' H' a le .non r, fol_ret (q0.le le1), fun _ _ _ _ _ a => a.elim, fun _ _ _ _ _ a => a.elim⟩
    exact ⟨_, PSs.nox (pssu (X := (cxOf CX0 X.prog X.w X.K X.mg X.base Ng x (defScope st) g cdv X.A X.stack s' H1 (fun _ _ _ => False)).nox) (defBody st)), z⟩
  refine wpAny_call (codeAny_mono
      rc fun r s2 hq => ?_)
  match r, hq with
  | .ok (.ret u), hq => exact I1.after hq
  | .ok .next, hq => exact hq.elim
  | .ok .brk, hq => exact hq.elim
  | .ok .cont, hq => exact hq.elim
  | .error e, hq => exact hq.elim
end
end DL
/-! DL, part W: the law's own call where its def makes lambdas -/
namespace DL
open L2 PySem
open PySem.Spec PyProof.Rows
open LamX (TabB)
/-- the law, its table of code objects at hand -/
def sLawT (n : Nat) (P : Addr) (q : Str) : SpD := fun ds O k _ => ∃ ns : List Int, ds = [.scr (ns.map .int)] ∧ ns.length ≤ n ∧ O P = some (.tab q) ∧ ∀ O', k (.bl true) O'
theorem lawGT {P : Program} {w : World} {K : PySem.W.Frag} {mg mb : Str → Option Value} {n j : Nat} {fa a c T : Addr} {q : Str} {fd : FuncData} {x : Str} {s₁ : Shared} {vs : List Value} {ns : List Int}
    (KX : K.In s₁.heap) (hns : s₁.heap.Ns mainGlobals mg) (hb : s₁.heap.Ns builtinsNs mb) (hbb : ∀ x : Str,
        x ≠ "__name__" → mb x = bootBuiltins x) (hlim : s₁.heap.NoLimit) (hg : s₁.gens = #[])
    (hT : s₁.heap.get? T = some { cls := .none, data := .fields #[] }) (nT : K.lookup T = none) (hC : PySem.W.CodeHd s₁.heap c T)
    (hbm : ∃ (bm : Addr) (ob : Obj),
        mg "__builtins__" = some (.ref bm) ∧ bm ≠ builtinsNs ∧ s₁.heap.get? bm = some ob ∧ ob.cls = .type "module" ∧ ob.dict = some builtinsNs ∧ ob.data = .plain)
    (ha : s₁.heap.get? a = some { cls := .type "list", data := .seq vs.toArray }) (hi : IntsAre vs ns) (hn : ns.length ≤ n) (hn2 : n ≤ sizeLine) (hr : Room j callerA)
    (F : ∀ base : Heap, K.In base → base.Ns mainGlobals mg → TabB base mg c T → FnG P w K mg base CX0 j fa fd [x] (spOf K (sLawT n T q))) (hbind : ∀ (s : Shared) (u : Value), BindsTo s fd ⟨[u], []⟩ [(x, u)]) :
    codeAny (model P w) callerA (.call (.ref fa) ⟨[.ref a],
        []⟩) (fun r s' => r = .ok (.ret (.bool true)) ∧ OldK s₁.heap s'.heap ∧ s'.os = s₁.os ∧ AllBare s'.gens) s₁ := by
  obtain ⟨H0, hS, hok0, hO⟩ := script_heap (P := P) (w := w) KX ha (vals_ints hi) (Nat.le_trans hn hn2)
  have aT : T ≠ a := fun z => by
    rw [z, ha] at hT
    cases hT
  have n0 : H0 T = none := by
    cases q : H0 T with
    | none => rfl
    | some u => exact absurd (hO T u q).1 aT
  let H : Hp := upd H0 T (.tbl #[])
  have at0 : ∀ {b : Addr} {u : HO}, H0 b = some u → H b = some u := fun {b u} e => by
    show upd H0 T (.tbl #[]) b = some u
    rw [upd_ne (ne_of_none e n0)]; exact e
  -- what is tracked: the script, the table
  have cases_ : ∀ {b : Addr} {u : HO}, H b = some u → (b = T ∧ u = .tbl #[]) ∨ (b ≠ T ∧ H0 b = some u) := fun {b u} e => by
    have e : upd H0 T (.tbl #[]) b = some u := e
    by_cases h : b = T
    · subst h; rw [upd_same] at e; exact .inl ⟨rfl, (Option.some.inj e).symm⟩
    · rw [upd_ne h] at e; exact .inr ⟨h, e⟩
  have hok : HOk P w H s₁.heap := fun b u e => by
    rcases cases_ e with ⟨rfl, rfl⟩ | ⟨_, e0⟩
    · exact hT
    · obtain ⟨_, _, o, xs, rfl⟩ := hO b u e0
      exact hok0 b _ e0
  have free : ∀ {b : Addr} {o : Obj}, s₁.heap.get? b = some o → (∀ vs n, o.data ≠ .seq vs n) → o.data ≠ .fields #[] → (hidT s₁.heap H).get? b = some o := fun {b o} e h1 h2 => hidT_get e (by
    cases q : H b with
    | none => rfl
    | some u =>
      rcases cases_ q with ⟨rfl, _⟩ | ⟨_, e0⟩
      · rw [hT] at e; cases e; exact absurd rfl h2
      · obtain ⟨rfl, _⟩ := hO b u e0
        rw [ha] at e; cases e; exact absurd rfl (h1 _ _))
  have ns_base : ∀ {b : Addr} {m : Str → Option Value}, s₁.heap.Ns b m → (hidT s₁.heap H).Ns b m := fun {b m} ⟨o, es, ep, e, d, r⟩ => ⟨o, es, ep, free e (fun vs n z => by rw [d] at z; cases z) (fun z => by rw [d] at z; cases z), d, r⟩
  have K_base : K.In (hidT s₁.heap H) := fun b o e => hidT_get (KX b o e) (by
    cases q : H b with
    | none => rfl
    | some u =>
      rcases cases_ q with ⟨rfl, _⟩ | ⟨_, e0⟩
      · rw [nT] at e; cases e
      · obtain ⟨_, z, _⟩ := hO b u e0
        rw [z] at e; cases e)
  have md : L2.Mod K mg (hidT s₁.heap H) := ⟨K_base, ns_base hns, ⟨mb, ns_base hb, hbb⟩, by
    obtain ⟨mc, l1, l2⟩ := hlim
    exact ⟨mc, ns_base l1, l2⟩⟩
  have tb : TabB (hidT s₁.heap H) mg c T := by
    refine ⟨?_, ?_, fun z => ?_⟩
    · obtain ⟨o, us, file, tf, flags, tg, inF, text, tt, e1, r1, r2, r3, rest⟩ := hC
      refine ⟨o, us, file, tf, flags, tg, inF, text, tt, free e1 (fun vs n z => ?_) (fun z => ?_), r1, r2, r3, rest⟩
      · rw [r2] at z; cases z
      · rw [r2] at z; cases z; simp at r3
    · obtain ⟨bm, ob, b1, b2,
          b3, b4, b5, b6⟩ := hbm
      refine ⟨bm, ob, b1, b2, fun z => ?_, fun z => ?_, free b3 (fun vs n z => ?_) (fun z => ?_), b4, b5, b6⟩
      · obtain ⟨o, es, ep,
            e, hd, _⟩ := hns
        rw [z, e] at b3; cases b3; rw [hd] at b6; cases b6
      · rw [z, hT] at b3; cases b3; cases b6
      · rw [b6] at z; cases z
      · rw [b6] at z; cases z
    · obtain ⟨o, es, ep,
          e, hd, _⟩ := hns
      rw [z, hT] at e; cases e; cases hd
  have e0 : Env0 P w K mg (hidT s₁.heap H) callerA [] s₁ H := ⟨rfl, md, fun b o e => of_hidT e, Nat.le_of_eq (hidT_size _ _), trivial, fun b z => (nomatch z), hok, .of_eq hg⟩
  have sp : spOf K (sLawT n T q) [.ref a] H (fun v _ => v = .bl true) (fun _ _ _ => False) := by
    refine ⟨[.scr (ns.map .int)], ⟨H0, fun _ => none⟩, put (fun _ => none) T (.tab q), fun d _ => d = .bl true, fun _ _ _ => False, ?_, ?_, ⟨ns, rfl, hn, put_same, fun _ => rfl⟩, ?_, fun _ _ _ _ _ _ _ z => z.elim⟩
    · exact .cons (.scr hS (is_ints ns)) .nil
    · refine ⟨fun b o e => at0 e, fun _ _ z => (nomatch z), fun b od e => ?_⟩
      by_cases h : b = T
      · subst h
        rw [put_same] at e
        cases e
        exact ⟨n0, #[], upd_same, True.intro, fun p' cv hc => by
          have z : codeAmong p' [] = some cv := hc
          simp [codeAmong] at z⟩
      · rw [put_ne h] at e; cases e
    · rintro v d O' L' H' rfl _ i _
      exact i.bl'
  refine codeAny_mono ((F _ K_base (ns_base hns) tb).go callerA [] s₁ H ⟨[.ref a], []⟩ [.ref a] [.ref a] _ _ rfl hr e0 (hbind s₁ (.ref a)) (.cons rfl .nil) sp) fun r s' h => ?_
  match r, h with
  | .error _, h => exact h.elim
  | .ok .next, h => exact h.elim
  | .ok .brk, h => exact h.elim
  | .ok .cont, h => exact h.elim
  | .ok (.ret u), ⟨v, H', os, bare, un, hok', rv, q⟩ =>
    have q' : v = .bl true := q
    subst q'
    obtain rfl : u = Value.bool true := rv
    have key : ∀ b o, b ≠ T → s₁.heap.get? b = some o → s'.heap.get? b = some o := fun b o nb e => by
      cases qb : H b with
      | none => exact un.keep b o e qb (by intro z; exact nomatch z) (by intro z; exact nomatch z)
      | some t =>
        rcases cases_ qb with ⟨z, _⟩ | ⟨_, e0⟩
        · exact absurd z nb
        · obtain ⟨_, _, ob, xs, rfl⟩ := hO b t e0
          have k1 := (hok b _ qb).1
          have k2 := (hok' b _ (un.frzs b ob _ qb)).1
          rw [e] at k1
          obtain rfl := Option.some.inj k1
          exact k2
    obtain ⟨more, hm⟩ : ∃ more : Array Value, s'.heap.get? T = some { cls := .none, data := .fields more } := by
      obtain ⟨more, z⟩ := un.tbls T #[] upd_same
      exact ⟨_, hok' T _ z⟩
    refine ⟨rfl, ⟨fun b o e => ?_,
        fun b o e => ?_⟩, os, bare⟩
    · by_cases h : b = T
      · subst h
        rw [hT] at e
        cases e
        exact .inr (.inl ⟨(hC.tab hT).isCodeTable, rfl, #[], more, rfl, by rw [Array.empty_append]; exact hm⟩)
      · exact .inl (key b o h e)
    · by_cases h : b = T
      · subst h; exact ⟨_, hm⟩
      · exact ⟨o, key b o h e⟩
/-- a def's body keeps its promise, its code object known -/
theorem FnG.bodyC {P : Program} {w : World} {K : PySem.W.Frag} {mg : Str → Option Value} {base : Heap} {x qual : Str} {st : Stmt} {f : Addr} {fd : FuncData} {N ps : List Str} {k : Nat} {S : SpD}
    (F : FunX K x qual st f fd) (Sc : FnScope N ps (defScope st)) (len : ∀ ds O k kx, S ds O k kx → ds.length = ps.length)
    (h : ∀ (A : Around) (outer : List Env) (s : Shared) (H : Hp) (E : XK), A.guards = some [] → Room k (A.deeper (envOfC qual (defScope st) s.heap.objs.size f fd.code)) → ∀ ds O k kx, S ds O k kx →
      WSs (Bo P w K mg base N qual st f fd.code A outer s H E) (defBody st) (gst N.length ds) O { nx := fun _ O' => Ret k .non O', rt := Ret k }) : FnG P w K mg base CX0 (k + 1) f fd ps (spOf K S) := by
  obtain ⟨_, _, _, _, _, _, _, cdv, _, _, ef, lk, hcd⟩ := F.ex
  rw [(fn_same st).1, (fn_same st).2.1, (fn_same st).2.2] at ef
  subst ef
  refine ⟨fun vs H Q E ⟨ds, L, O, k, kx, hi, _, hs, _⟩ => hi.length.trans (len ds O k kx hs), fun A outer s H args us vs Q E hg hr e0 hb rv hsp => ?_⟩
  have hl : vs.length = ps.length := by
    obtain ⟨ds, L, O, k, kx, hi, _, hs, _⟩ := hsp
    exact hi.length.trans (len ds O k kx hs)
  refine LamX.run_ofS (N := N) lk hcd Sc hr e0 hb rv hl fun hr' => ?_
  obtain ⟨ds, L, O, k, kx, hi, hR, hS, hk, _⟩ := hsp
  have z := h A outer s H E hg hr' ds O k kx hS (start N vs) L H (sl_start hi) hR { nx := fun _ H' => Q .non H', rt := Q }
    ⟨fun Γ' O' σ' L' H' a le _ r => fol_ret hk .non .non O' L' H' a le .non r, fol_ret hk, fun _ _ _ _ _ a => a.elim, fun _ _ _ _ _ a => a.elim⟩
  exact ⟨_, PSs.nox (pssu (X := (cxOf CX0 P w K mg base N qual (defScope st) f cdv A outer s H E).nox) (defBody st)), z⟩
/-- the law's own def, its code object at c -/
def PlC (P : Program) (w : World) (K : PySem.W.Frag) (mg : Str → Option Value) (base : Heap) (x : Str) (st : Stmt) (ps : List Str) (c : Addr) (j : Nat) (S : SpD) : Prop := ∀ (f : Addr) (fd : FuncData), fd.code = .ref c → FunX K x x st f fd → FnG P w K mg base CX0 j f fd ps (spOf K S)
theorem PlC.of {P : Program} {w : World} {K : PySem.W.Frag} {mg : Str → Option Value} {base : Heap} {x : Str} {st : Stmt} {N ps : List Str} {c : Addr} {j : Nat} {S : SpD} (Sc : FnScope N ps (defScope st)) (len : ∀ ds O k kx, S ds O k kx → ds.length = ps.length)
    (h : ∀ (f : Addr) (A : Around) (outer : List Env) (s : Shared) (H : Hp) (E : XK), A.guards = some [] → Room j (A.deeper (envOfC x (defScope st) s.heap.objs.size f (.ref c))) → ∀ ds O k kx, S ds O k kx →
      WSs (Bo P w K mg base N x st f (.ref c) A outer s H E) (defBody st) (gst N.length ds) O { nx := fun _ O' => Ret k .non O', rt := Ret k }) : PlC P w K mg base x st ps c (j + 1) S := fun f fd hc F => .bodyC F Sc len (by rw [hc]; exact h f)
theorem law_endC {K : PySem.W.Frag} {mg : Str → Option Value} {P : Program} {w : World} {h : Heap} {x p q : Str} {st : Stmt} {j n : Nat} {fa c T : Addr} (X : K.In h) (G : h.Ns mainGlobals mg) (hfa : mg x = some (.ref fa)) (D : Dn K x st) (ht : PySem.W.tabIn K x = some (c, T))
    (b : ∀ (kV doc pm : Value) (an : Option Addr) (cdv ct u : Value), bindArgs (PySem.W.fnOf x x (defArgs st) (defBody st) (defScope st) .none kV doc pm an cdv ct) ⟨[u], []⟩ = pure [(p, u)])
    (F : ∀ base : Heap, K.In base → base.Ns mainGlobals mg → TabB base mg c T → PlC P w K mg base x st [p] c j (sLawT n T q)) :
    ∃ fd : FuncData, (∀ (s : Shared) (u : Value), BindsTo s fd ⟨[u], []⟩ [(p, u)]) ∧ ∀ base : Heap, K.In base → base.Ns mainGlobals mg → TabB base mg c T → FnG P w K mg base CX0 j fa fd [p] (spOf K (sLawT n T q)) := by
  cases D with
  | mk a l cc k =>
    have e := hfa.symm.trans (PySem.W.mg_of X G a)
    cases e
    exact ⟨_, fun s u => .of_eq (b _ _ _ _ _ _ u), fun base i n tb => F base i n tb _ _ (PySem.W.law_code X G ht hfa (X _ _ l) rfl) (funx_mk l cc)⟩
theorem walkGT {l : PySem.W.OpenLaw} {n j : Nat} {q : Program} {loose : List Str} {XP : (Str → Option Value) → Heap → Prop} {YP : World → Heap → Prop} {d dr : DefRec} {Kf : Params → PySem.W.Frag} {x lx qn : Str} {c T : Addr}
    (hn : l.most = some n) (hn2 : n ≤ sizeLine) (hdf : d.params.defaults = []) (hr : Room j callerA) (hY : ∀ (w : World) (h : Heap), YP w h → (Kf w.params).In h)
    (hrec : (recsOf q).find? (fun e => e.name == lx) = some dr)
    (F : ∀ (w : World) (mg : Str → Option Value) (fa : Addr) (h : Heap), (Kf w.params).In h → h.Ns mainGlobals mg → mg d.name = some (.ref fa) → PySem.W.tabIn (Kf w.params) lx = some (c, T) ∧ (Kf w.params).lookup T = none ∧ ∃ fd : FuncData, (∀ (s : Shared) (u : Value), BindsTo s fd ⟨[u], []⟩ [(x, u)]) ∧
      ∀ base : Heap, (Kf w.params).In base → base.Ns mainGlobals mg → TabB base mg c T → FnG l.prog w (Kf w.params) mg base CX0 j fa fd [x] (spOf (Kf w.params) (sLawT n T qn))) :
    PySem.W.WalkO q loose XP YP l.row.toRowW d [] (fun
        f vs => PySem.call f vs) := by
  refine Att.attach_call hn hdf fun w s₀ s₁ mg mb fa o pm
      cd doc a vs ns G Y ho hd hcd hmg hobj hints hlen hg => ?_
  have KX := hY w _ Y
  obtain ⟨ht, nT, fd, hb, hF⟩ := F w mg fa _ KX G.T.g hmg
  obtain ⟨hC, hT⟩ := PySem.W.tab_of G.T KX hrec ht
  exact lawGT KX G.T.g G.T.b G.T.builtins G.T.nolimit hg hT nT hC G.T.bmain hobj hints hlen hn2 hr hF hb
end DL
/-! DL, part X: methods by keywords that may raise; == of an own thing and something else; list.index; == of dicts -/
namespace DL
open L2 PySem
open PySem.Spec PyProof.Rows
section
variable {X : Cx} {L0 : Lg} {kg : KG} {Γ : Sg} {O : Ow} {k : KD} {De : DE}
/-- a method called by keywords, it may raise -/
structure KmkX (X : Cx) (C : Addr) (m : Str) (j : Nat) (S : SpD) (ks : List Str) (gD : List D → List D → List D) : Prop where
  ex : ∃ (f : Addr) (fd : FuncData) (ps : List Str) (g : List Value → List Value → List Value) (gV : List V → List V → List V), FnG X.prog X.w X.K X.mg X.base (L2.CX X.prog X.w) j f fd ps (spOf X.K S) ∧ Meth X.K C m f ∧ KBn X.K fd ps 1 ks g gV ∧ GOk X.K gV gD
  cl : Cls X.K C
theorem we_methKX {C : Addr} {m : Str} {j : Nat} {S : SpD} {ks : List Str} {gD : List D → List D → List D} {o : Expr} {kws : List Keyword} {apos pos : Pos} {pl : Sem Bool} (F : KmkX X C m j S ks gD) (tx : Tx X L0 kg) (hgd : X.A.guards = some []) (hr : Room j X.A)
    (hall : (backToKw pos (keywordEach kws X.env)).all (·.1.isSome) = true) (hks : (backToKw pos (keywordEach kws X.env)).filterMap (·.1) = ks)
    (hpl : ((backTo pos (starEach [] X.env)).any (·.1) || (backToKw pos (keywordEach kws X.env)).any (·.1.isNone)) = false)
    (ht : eval (.Call (.Attribute o m apos) [] kws pos) X.env = (do
      let obj ← eval o X.env
      standAt apos.atName
      let (fn, head) ← holding [obj] (getMethod obj m pl)
      callWith pos fn head (backTo pos (starEach [] X.env)) (backToKw pos (keywordEach kws X.env))))
    (h : WE X o Γ O fun x O1 => ∃ fds, InD O1 x C fds ∧ fds.lookup m = none ∧ WK X kws Γ O1 fun ds O2 => ds.length = ks.length ∧ S (gD [x] ds) O2 k fun Ce fe O3 => kg Ce fe Γ O3) : WEx X L0 (.Call (.Attribute o m apos) [] kws pos) Γ O k := fun σ L H l0 hs hR Q q pins s I => by
  obtain ⟨W, tk, tw⟩ := tx.ex
  obtain ⟨f, fd, ps, g, gV, G, hm, hb, hG⟩ := F.ex
  refine PySem.W.methodCall_KW (pl := pl) (thn (h σ L H hs hR (fun v H1 => ∃ x O1 L1, (∃ fds, InD O1 x C fds ∧ fds.lookup m = none ∧ WK X kws Γ O1 fun ds O2 => ds.length = ks.length ∧ S (gD [x] ds) O2 k fun Ce fe O3 => kg Ce fe Γ O3) ∧ L.le L1 ∧ Is X.K L1 v x ∧ R X.K L1 O1 H1) (fun v x O1 L1 H1 a b c d => ⟨x, O1, L1, a, b, c, d⟩) pins s I)
    fun u s1 ⟨v, H1, I1, rv, x, O1, L1, ⟨fds, hi, hl, h2⟩, le1, is1, r1⟩ => ?_) ht
  obtain ⟨a, dx, fs, rfl, g1, g2, g3⟩ := inD_of r1 hi is1
  obtain rfl : u = Value.ref a := rv
  refine getmeth_ok I1 g1 F.cl hm ((lookup_is g2 g3).2 hl) ?_
  refine PySem.W.callWith_KW0 (first := [.ref a]) (h₀ := X.base) I1.ok.mod.kin hm.kp hall (thn (h2 σ L1 H1 (hs.mono le1) r1 (fun vs H2 => ∃ ds O2 M2, (ds.length = ks.length ∧ S (gD [x] ds) O2 k fun Ce fe O3 => kg Ce fe Γ O3) ∧ L1.le M2 ∧ IsL X.K M2 vs ds ∧ R X.K M2 O2 H2) (fun vs ds O2 M2 H2 a b c d => ⟨ds, O2, M2, a, b, c, d⟩) pos pins s1 I1)
    fun us s2 ⟨vs, H2, I2, rvs, ds, O2, M2, ⟨h3, h4⟩, le2, is2, r2⟩ => ⟨I2.kIn, ?_⟩) hpl
  rw [hks]
  have le := le1.trans le2
  have sp : spOf X.K S (gV [.ref a] vs) H2 Q (fun cls d H' => W cls d σ H') := ⟨_, M2, O2, k, _, hG M2 _ _ _ _ (.cons (is1.mono le2) .nil) is2, r2, h4, q.le le, fun Ce d fs fe O3 L3 H3 hk le3 a b c r3 =>
    tw Ce d fs fe Γ O3 σ L3 H3 hk (l0.trans (le.trans le3)) (hs.mono (le.trans le3)) a b c r3⟩
  have b := hb.to s2 [.ref a] us I2.kIn rfl (by rw [← rvs.length, is2.length]; exact h3)
  refine wpAny_call (codeAny_mono (G.go X.A X.stack s2 H2 ⟨[.ref a], ks.zip us⟩ (g [.ref a] us) (gV [.ref a] vs) Q _ hgd hr I2.env0 b (hb.rel (.cons rfl .nil) rvs) sp) fun r s' hq => ?_)
  match r, hq with
  | .ok (.ret u), hq => exact I2.after hq
  | .ok .next, hq => exact hq.elim
  | .ok .brk, hq => exact hq.elim
  | .ok .cont, hq => exact hq.elim
  | .error e, hq => exact tk _ _ (XE.of_call I2 (fun _ _ _ h => h) hq)
end
section
variable {base : Heap} {mg : Str → Option Value} {K : PySem.W.Frag} {w : World} {P : Program}
structure PkkX (P : Program) (w : World) (K : PySem.W.Frag) (mg : Str → Option Value) (base : Heap) (C : Addr) (m : Str) (j : Nat) (S : SpD) (ks : List Str) (gD : List D → List D → List D) : Prop where
  ex : ∃ (f : Addr) (fd : FuncData) (ps : List Str) (g : List Value → List Value → List Value) (gV : List V → List V → List V), FnG P w K mg base (L2.CX P w) j f fd ps (spOf K S) ∧ Meth K C m f ∧ KBn K fd ps 1 ks g gV ∧ GOk K gV gD
  cl : Cls K C
theorem PkkX.kmk {C : Addr} {m : Str} {j : Nat} {S : SpD} {ks : List Str} {gD : List D → List D → List D} (F : PkkX P w K mg base C m j S ks gD) {X : Cx} (e1 : X.prog = P) (e2 : X.w = w) (e3 : X.K = K) (e4 : X.mg = mg) (e5 : X.base = base) : KmkX X C m j S ks gD := by
  subst e1 e2 e3 e4 e5
  exact ⟨F.ex, F.cl⟩
/-- how what is given and what lacks is put together: by places -/
def gI (ix : List Nat) {α : Type} (us mv ws : List α) : List α := ix.filterMap fun i => (us ++ mv ++ ws)[i]?
theorem vals_at : ∀ {vs : List V} {us : List Value} (i : Nat), Vals vs us → (vs[i]? = none ∧ us[i]? = none) ∨ ∃ v u, vs[i]? = some v ∧ us[i]? = some u ∧ RelV v u
  | _, _, i, .nil => .inl ⟨by simp, by simp⟩
  | _, _, 0, .cons r t => .inr ⟨_, _, rfl, rfl, r⟩
  | _, _, i + 1, .cons r t => by simpa using vals_at i t
theorem vals_app : ∀ {vs ws : List V} {us zs : List Value}, Vals vs us → Vals ws zs → Vals (vs ++ ws) (us ++ zs)
  | _, _, _, _, .nil, s => s
  | _, _, _, _, .cons r t, s => .cons r (vals_app t s)
theorem gI_rel (ix : List Nat) {vs mz zs : List V} {us mv ws : List Value} (h1 : Vals vs us) (h2 : Vals mz mv) (h3 : Vals zs ws) : Vals (gI ix vs mz zs) (gI ix us mv ws) := by
  have h := vals_app (vals_app h1 h2) h3
  unfold gI
  induction ix with
  | nil => exact .nil
  | cons i ix ih =>
    rw [List.filterMap_cons, List.filterMap_cons]
    rcases vals_at i h with ⟨e1, e2⟩ | ⟨v, u, e1, e2, r⟩
    · rw [e1, e2]; exact ih
    · rw [e1, e2]; exact .cons r ih
theorem is_at {L : Lg} : ∀ {vs : List V} {ds : List D} (i : Nat), IsL K L vs ds → (vs[i]? = none ∧ ds[i]? = none) ∨ ∃ v u, vs[i]? = some v ∧ ds[i]? = some u ∧ Is K L v u
  | _, _, i, .nil => .inl ⟨by simp, by simp⟩
  | _, _, 0, .cons r t => .inr ⟨_, _, rfl, rfl, r⟩
  | _, _, i + 1, .cons r t => by simpa using is_at i t
theorem gI_is (ix : List Nat) {L : Lg} {vs mz zs : List V} {ds es fs : List D} (h1 : IsL K L vs ds) (h2 : IsL K L mz es) (h3 : IsL K L zs fs) : IsL K L (gI ix vs mz zs) (gI ix ds es fs) := by
  have h := (h1.append h2).append h3
  unfold gI
  induction ix with
  | nil => exact .nil
  | cons i ix ih =>
    rw [List.filterMap_cons, List.filterMap_cons]
    rcases is_at i h with ⟨e1, e2⟩ | ⟨v, u, e1, e2, r⟩
    · rw [e1, e2]; exact ih
    · rw [e1, e2]; exact .cons r ih
/-- ks are given, ms lack; ix: where each parameter's value stands among self, those of ms, those of ks -/
theorem PkkX.of {C : Addr} {m qual : Str} {st : Stmt} {N ps : List Str} {j : Nat} {S : SpD} {kws : List (Str × V)} (T : Dnk K C m qual st kws) (c : Cls K C) (Sc : FnScope N ps (defScope st)) (len : ∀ ds O k kx, S ds O k kx → ds.length = ps.length)
    (h : ∀ (f : Addr) (cdv : Value) (A : Around) (outer : List Env) (s : Shared) (H : Hp) (E : XK), A.guards = some [] → Room j (A.deeper (envOfC qual (defScope st) s.heap.objs.size f cdv)) → ∀ L0 ds O k kx, S ds O k kx →
      Tx (Bx P w K mg base N qual st f cdv A outer s H E) L0 (fun C fds _ O' => kx C fds O') →
      WSsx (Bx P w K mg base N qual st f cdv A outer s H E) L0 (defBody st) (gst N.length ds) O { nx := fun _ O' => Ret k .non O', rt := Ret k })
    (ks : List Str) (ms : List (Str × V)) (es : List D) (ix : List Nat) (hms : ∀ q ∈ ms, q ∈ kws) (hes : ∀ L, IsL K L (ms.map (·.2)) es)
    (hb : ∀ (Dk : Addr) (doc pm : Value) (an : Option Addr) (cdv ct : Value) (us mv ws : List Value), us.length = 1 → mv.length = ms.length → ws.length = ks.length →
      KwChain Dk ((ms.map (·.1)).zip mv) (bindArgs (PySem.W.fnOf m qual (defArgs st) (defBody st) (defScope st) .none (.ref Dk) doc pm an cdv ct) ⟨us, ks.zip ws⟩) (ps.zip (gI ix us mv ws))) : PkkX P w K mg base C m (j + 1) S ks (fun ds fs => gI ix ds es fs) := by
  cases T with
  | mk a i l c2 kp wl =>
    obtain ⟨mv, hl, rk, hks⟩ := kwd_vals (ms := ms) fun q hm => wl.all q (hms q hm)
    have hG : GOk K (fun vs zs => gI ix vs (ms.map fun q => q.2) zs) (fun ds fs => gI ix ds es fs) := fun L vs ds zs fs h1 h3 => gI_is ix h1 (hes L) h3
    have hB : ∀ doc pm an cdv ct, KBn K (PySem.W.fnOf m qual (defArgs st) (defBody st) (defScope st) .none (.ref _) doc pm an cdv ct) ps 1 ks (fun us ws => gI ix us mv ws) (fun vs zs => gI ix vs (ms.map fun q => q.2) zs) := fun doc pm an cdv ct =>
      ⟨fun s us ws X l1 l2 => L2.BindsTo.of_looks fun M => KwChain.looks X hks (hb _ doc pm an cdv ct us mv ws l1 hl l2), fun r1 r2 => gI_rel ix r1 rk r2⟩
    exact ⟨⟨_, _, ps, _, _, fn_bodyX (funx_mk l c2) Sc len (h _), ⟨a, i, kp⟩, hB _ _ _ _ _, hG⟩, c⟩
end
section
variable {X : Cx} {L0 : Lg} {Γ : Sg} {O : Ow} {k : KD} {De : DE}
/-- an own thing == a text | a number: its own == is asked -/
theorem wo_eqOwnF {x y : D} {fds : List (Str × D)} {C : Addr} {j : Nat} {S : SpD} {T : String} (F : Km X C "__eq__" j S) (hgd : X.A.guards = some []) (hr : Room j X.A) (hx : InD O x C fds) (hy : (∃ z, y = .str z ∧ T = "str") ∨ ∃ i, y = .int i ∧ T = "int") (hn : PySem.W.notFirst X.K C (.type T) = true)
    (h : S [x, y] O k fun _ _ _ => False) : WO X (compareOp .Eq) x y O k := fun vx vy L H ix iy hR Q q => by
  obtain ⟨a, dx, fs, rfl, ha, _, _⟩ := inD_of hR hx ix
  obtain ⟨f, fd, ps, G, M, bd⟩ := F.ex
  intro pins s σ v u I rx ry
  cases rx
  obtain ⟨mA, J,
      _⟩ := ins_get I.hok ha
  obtain ⟨od, J, _⟩ := J.look
  obtain ⟨m, hF⟩ := I.fr
  have ht : PySem.W.Looks (model X.prog X.w) s.heap (typeOf u) (.type T) := by
    rcases hy with ⟨z, rfl, rfl⟩ | ⟨z, rfl, rfl⟩
    · obtain rfl := iy.str'
      obtain ⟨t, rfl⟩ := ry
      exact PySem.W.Looks.of_pure
          rfl
    · obtain rfl := iy.int'
      obtain ⟨t, rfl⟩ := ry
      exact PySem.W.Looks.of_pure
          rfl
  refine PySem.W.cmp_K (op := .Eq) (tb := .type T) hr.units0 hF I.ok.mod.kin J ht hn M.at_ M.fn ?_
  refine wpAny_mono (run_gA (us := [.ref a, u]) (vs := [.ref a, vy]) G hgd hr I.env0 bd I (.cons rfl (.cons ry .nil)) (sp_of h (.cons ix (.cons iy .nil)) hR q)) (fun w s' z => ?_) fun _ _ e => e
  obtain ⟨z', H',
      I', rz, qz⟩ := z
  exact cmp_back rz ⟨z', H', I', rz, qz⟩
/-- xs.index(x), found -/
theorem wm_index {xs : List Str} {x : Str} {j : Nat} (hj : xs[j]? = some x) (ha : ∀ m, m < j → xs[m]? ≠ some x) (h : k (.int (j : Int)) O) : WM X "list.index" (.lst (xs.map .str)) [.str x] O k := fun vx vs L H ix is hr Q q => by
  obtain ⟨v, rfl, i1⟩ := is.one'
  obtain rfl := i1.str'
  obtain ⟨p, us, rfl, s, t⟩ := sqD_of hr sq_lst ix
  have e : us = xs.map V.str := by
    have e := isL_v (X := X) (vs := us) (ds := xs.map D.str) (by rw [List.all_map]; exact List.all_eq_true.mpr fun _ _ => rfl) t
    rw [e, List.map_map]
    rfl
  subst e
  refine toM mt_index ⟨p, xs.map V.str, .str x, j, .str x, rfl, rfl, s, rfl, by rw [List.all_map]; exact List.all_eq_true.mpr fun _ _ => rfl, by rw [List.getElem?_map, hj]; rfl, by simp [eqV], fun m z' hm hz => ?_, q _ _ _ _ _ h (.refl L) (.int _) hr⟩
  rw [List.getElem?_map] at hz
  cases e : xs[m]? with
  | none => rw [e] at hz; cases hz
  | some y =>
    rw [e] at hz
    obtain rfl : V.str y = z' := by simpa using hz
    have ne : y ≠ x := fun q => ha m hm (by rw [e, q])
    simp [eqV, ne]
end

/-! ### a goal's kind, asked ahead of its rules -/
section
variable {X : Cx} {L0 : Lg} {Γ : Sg} {O : Ow} {k : KD} {De : DE}
theorem gq_WE {e} (h : WE X e Γ O k) : WE X e Γ O k := h
theorem gq_WT {e k} (h : WT X e Γ O k) : WT X e Γ O k := h
theorem gq_WW {e k} (h : WW X e Γ O k) : WW X e Γ O k := h
theorem gq_WA {e k} (h : WA X e Γ O k) : WA X e Γ O k := h
theorem gq_WS {st} (h : WS X st Γ O De) : WS X st Γ O De := h
theorem gq_WSs {st} (h : WSs X st Γ O De) : WSs X st Γ O De := h
theorem gq_WO {f x y} (h : WO X f x y O k) : WO X f x y O k := h
theorem gq_WU {f x} (h : WU X f x O k) : WU X f x O k := h
theorem gq_WC {f ds} (h : WC X f ds O k) : WC X f ds O k := h
theorem gq_WI {x y} (h : WI X x y O k) : WI X x y O k := h
theorem gq_WM {i x ds} (h : WM X i x ds O k) : WM X i x ds O k := h
theorem gq_WG {tg d k} (h : WG X tg d Γ O k) : WG X tg d Γ O k := h
theorem gq_WGs {tg d k} (h : WGs X tg d Γ O k) : WGs X tg d Γ O k := h
theorem gq_WP {p k} (h : WP X p Γ O k) : WP X p Γ O k := h
theorem gq_WSl {x lo hi} (h : WSl X x lo hi O k) : WSl X x lo hi O k := h
theorem gq_WSet {x y d k} (h : WSet X x y d O k) : WSet X x y d O k := h
theorem gq_WPs {ks vs k} (h : WPs X ks vs Γ O k) : WPs X ks vs Γ O k := h
theorem gq_ItD {x y κ} (h : ItD X x y Γ O κ) : ItD X x y Γ O κ := h
theorem gq_LoopD {tg b ds} (h : LoopD X tg b De ds Γ O) : LoopD X tg b De ds Γ O := h
theorem gq_WEx {e} (h : WEx X L0 e Γ O k) : WEx X L0 e Γ O k := h
theorem gq_WSx {e} (h : WSx X L0 e Γ O De) : WSx X L0 e Γ O De := h
theorem gq_WSsx {e} (h : WSsx X L0 e Γ O De) : WSsx X L0 e Γ O De := h
theorem gq_ite {c : Prop} [Decidable c] {a b : Prop} (h : if c then a else b) : if c then a else b := h
theorem gq_ex {α : Sort _} {p : α → Prop} (h : ∃ x, p x) : ∃ x, p x := h
theorem gq_and {a b : Prop} (h : a ∧ b) : a ∧ b := h
end
end DL
/-! DL, part Y: a set of texts -/
namespace DL
open L2 PySem
open PySem.Spec PyProof.Rows
open SS (strs_at)

/-! ### how many texts are unlike -/
/-- of a list told from its end -/
def unl : List Str → Nat
  | [] => 0
  | x :: r => if x ∈ r then unl r else unl r + 1
theorem unl_le : ∀ l : List Str, unl l ≤ l.length
  | [] => Nat.le_refl _
  | x :: r => by
    have := unl_le r
    unfold unl
    split
    · exact Nat.le_succ_of_le this
    · exact Nat.succ_le_succ this
theorem unl_all : ∀ l : List Str, unl l = l.length ↔ l.Nodup
  | [] => ⟨fun _ => List.nodup_nil, fun _ => rfl⟩
  | x :: r => by
    have ih := unl_all r
    have le := unl_le r
    unfold unl
    rw [List.nodup_cons, List.length_cons]
    split
    · rename_i h
      exact ⟨fun e => by omega, fun e => absurd h e.1⟩
    · rename_i h
      exact ⟨fun e => ⟨h, ih.mp (by omega)⟩, fun e => by rw [ih.mpr e.2]⟩
theorem nodup_rev {l : List Str} : l.reverse.Nodup ↔ l.Nodup := (List.reverse_perm l).nodup_iff
theorem unl_cons (x : Str) (r : List Str) : unl (x :: r) = if x ∈ r then unl r else unl r + 1 := rfl

section
variable {prog : Program} {w : World} {A : Around} {R : Result → Shared → Prop} {I S : Addr} {fp wr : List Addr} {G : Array GenState → Array GenState → Prop} {P : Nat → Value → Prop} {St : Nat → Shared → Prop}
theorem setOf_same {h h' : Heap} {m : Str → Bool} {n : Nat} (a : h.SetOf (PySem.strKind prog w) S m n) (k : ∀ o, h.get? S = some o → h'.get? S = some o) : h'.SetOf (PySem.strKind prog w) S m n := by
  obtain ⟨o, es, ep, tb, ho, more⟩ := a
  exact ⟨o, es, ep, tb, k o ho, more⟩
/-- the texts that are left go into the set, one by one -/
theorem texts_into {xs : List Str} (W : WalksS prog w A.in1 I fp wr G xs.length P St) (far : S ∉ fp) (room : xs.length + 1 < scanBound) (val : ∀ i v, P i v → ∃ t, v = .str (xs.getD i Str.empty) t) :
    ∀ (todo done : List Str) (s : Shared), xs = done ++ todo → St done.length s → s.heap.SetOf (PySem.strKind prog w) S (fun y => decide (y ∈ done)) (unl done.reverse) →
      (∀ s2, Moved (S :: wr) G s s2 → s2.heap.SetOf (PySem.strKind prog w) S (fun y => decide (y ∈ xs)) (unl xs.reverse) → R (.ok (.ret .none)) s2) →
      codeAny (model prog w) A (.builtin "set.update.loop" ⟨[.ref S, .ref I], []⟩) R s
  | [], done, s, e, st, hS, k => by
    rw [List.append_nil] at e
    subst e
    have hw : S ∉ wr := fun z => far (W.sub _ z)
    refine codeAny_builtin
        PyProof.Rows.F.entry_set_update_loop ?_
    rw [Around.under_plainId
        PyProof.Rows.F.plain_set_update_loop _]
    refine wpAny_bind (W.done s _ _ st fun s2 mv => ?_)
    exact wpAny_pure (k s2 ⟨fun b o hb eb => mv.heap b o (fun z => hb (.tail _ z)) eb, mv.gens, mv.drawn, mv.os, mv.toks⟩ (setOf_same hS fun o eo => mv.heap S o hw eo))
  | x :: todo, done, s, e, st, hS, k => by
    have hw : S ∉ wr := fun z => far (W.sub _ z)
    have hlt : done.length < xs.length := by
      rw [e, List.length_append,
          List.length_cons]
      omega
    have hx : xs.getD done.length Str.empty = x := by
      rw [e, List.getD_eq_getElem?_getD, List.getElem?_append_right (Nat.le_refl _), Nat.sub_self]
      rfl
    refine codeAny_builtin
        PyProof.Rows.F.entry_set_update_loop ?_
    rw [Around.under_plainId
        PyProof.Rows.F.plain_set_update_loop _]
    refine wpAny_bind (W.item done.length s _ _ hlt st fun v s1 hv st1 mv => ?_)
    obtain ⟨tk, rfl⟩ := val _ _ hv
    rw [hx]
    have hS1 := setOf_same (h' := s1.heap) hS fun o eo => mv.heap S o hw eo
    show wpAny _ A.in1 (holding [Value.str x tk] (setAdd S (.str x tk)) >>= _) _ _ s1
    refine wpAny_bind (wpAny_holding
        ?_)
    unfold setAdd
    refine wpAny_holding (wpAny_bind ((PySem.strKind prog w).pyHash (k := x) (strKind_is _ _ _ _) ?_))
    have lim : unl done.reverse + 1 < scanBound := by
      have := unl_le done.reverse
      rw [List.length_reverse] at this
      omega
    refine wpAny_setAddHashed_of (knd := PySem.strKind prog w) (s := { s1 with toks := s1.toks + 1 }) (strKind_is _ _ _ _) rfl hS1 lim fun h2 sb hS2 => ?_
    have hS3 : h2.SetOf (PySem.strKind prog w) S (fun y => decide (y ∈ done ++ [x])) (unl (done ++ [x]).reverse) := by
      refine SetOf_congr hS2 (fun y => ?_) ?_
      · rw [Bool.eq_iff_iff]
        simp
      · rw [List.reverse_append]
        show (if decide (x ∈ done) = true then _ else _) = unl (x :: done.reverse)
        rw [unl_cons]
        by_cases q : x ∈ done
        · rw [if_pos (decide_eq_true q), if_pos (List.mem_reverse.mpr q)]
        · rw [if_neg (by simp [q]), if_neg (fun z => q (List.mem_reverse.mp z))]
    have out : ∀ b, b ≠ S → h2.get? b = s1.heap.get? b := fun b hb => sb.2 b hb
    have st2 : St (done ++ [x]).length { s1 with heap := h2, toks := s1.toks + 1 } := by
      rw [List.length_append]
      exact W.frame _ s1 _ _ st1 (Nat.le_succ _) fun b hb o eo => by
        rw [out b fun z => far (z ▸ hb)]
        exact eo
    refine wpAny_pure ⟨plainId_quiet PyProof.Rows.F.plain_set_update_loop _, texts_into W far room val todo (done ++ [x]) _ (by rw [e, List.append_assoc]; rfl) st2 hS3 fun s3 mv3 hS4 => ?_⟩
    refine k s3 ⟨fun b o hb eb => ?_, W.gtrans _ _ _ mv.gens mv3.gens, mv3.drawn.trans mv.drawn, mv3.os.trans mv.os, Nat.le_trans mv.toks (Nat.le_trans (Nat.le_succ _) mv3.toks)⟩ hS4
    refine mv3.heap b o hb ?_
    rw [show ({ s1 with heap := h2, toks := s1.toks + 1 } : Shared).heap = h2 from rfl, out b fun z => hb (z ▸ .head _)]
    exact mv.heap b o (fun z => hb (.tail _ z)) eb
end
section
variable {prog : Program} {w : World} {A :
    Around} {E : Value → Shared → Prop} {s : Shared}
def emptySet (led : Bool) : Obj := { cls := .type "set", dict := none, data := .set #[] 0 (.fresh 0 0 led) }
/-- set.__init__ of an empty set and a list of texts -/
theorem init_texts {l a : Addr} {items : Array Value} {xs : List Str} {led : Bool} {R : Value → Shared → Prop} (calm : A.handled = none) (hl : s.heap.IsList l items) (hi : StrsAre items.toList xs) (room : xs.length + 1 < scanBound)
    (ha : s.heap.get? a = some (emptySet led)) (hne : l ≠ a)
    (h : ∀ (h' : Heap) (tk : Nat), h'.SetOf (PySem.strKind prog w) a (fun y => decide (y ∈ xs)) (unl xs.reverse) → (∀ b o, b ≠ a → s.heap.get? b = some o → h'.get? b = some o) → R .none { s with heap := h', toks := tk }) :
    codeAny (model prog w) A (.builtin "set.__init__" ⟨[.ref a, .ref l], []⟩) (wants R E) s := by
  obtain ⟨hp, g,
      d, tk0, os⟩ := s
  have hsz : xs.length = items.size := by rw [← StrsAre.len_eq hi,
      Array.length_toList]
  refine codeAny_builtin PySem.F.entry_set_init ?_
  rw [Around.under_plainId PySem.F.called_set.init.plain _]
  obtain ⟨ol, hol, hcl, nl, hdl⟩ := hl
  obtain ⟨ocls, odict,
      odata, oslots⟩ := ol
  simp only at hcl hdl
  subst hcl
  subst hdl
  have s1 := PySem.F.sub_list_set
  have s2 := PySem.F.sub_list_frozenset
  have s3 : (Value.type "list" == Value.type "dict") = false := by decide
  have hL : hp.IsList l items := ⟨_, hol, rfl, nl, rfl⟩
  have hA : hp.get? a = some { cls := .type "set", dict := none, data := .set #[] 0 (.fresh 0 0 led) } := ha
  unfold Builtin.«set.__init__»
      noKeywords Builtin.Frozenset.updateFrom
  generalize hPI : pyIter = PI
  wp_walk
  subst hPI
  refine wpAny_pyIter_list hL (wpAny_bind (wpAny_runValue ?_))
  have lt : l < hp.objs.size := Heap.lt_size hol
  have lta : a < hp.objs.size := Heap.lt_size ha
  have hneI : l ≠ hp.objs.size := Nat.ne_of_lt lt
  have hneA : a ≠ hp.objs.size := Nat.ne_of_lt lta
  have W := (Walks.list (prog := prog) (w := w) (A := A.in1.in1) (by simp [calm]) hp.objs.size l hneI items).toS
  rw [← hsz] at W
  have start : (hp.push { cls := .type "list_iterator", data := .fields #[.ref l, .int 0 0] }).SetOf (PySem.strKind prog w) a (fun y => decide (y ∈ ([] : List Str))) (unl ([] : List Str).reverse) := by
    have e0 : (hp.push { cls := .type "list_iterator", data := .fields #[.ref l, .int 0 0] }).get? a = some { cls := .type "set", dict := none, data := .set #[] 0 (.fresh 0 0 led) } := Heap.get?_push_of_some _ hA
    exact SetOf_congr ((setObjOf_fresh (knd := PySem.strKind prog w) led).setOf e0 (by unfold scanBound; omega)) (fun y => by simp) rfl
  refine texts_into (S := a) W (fun z => ?_) room (fun i v hv => strs_at hi i v (by rw [Array.getElem?_toList]; exact hv)) xs [] ⟨hp.push { cls := .type "list_iterator", data := .fields #[.ref l, .int 0 0] }, g, d, tk0, os⟩ rfl ⟨⟨_, Heap.get?_push_size _ rfl, rfl, rfl⟩, hL.push _⟩ start fun s2 mv hS => ?_
  · rcases List.mem_cons.mp z with q | q
    · exact hneA q
    · exact hne (List.mem_singleton.mp q).symm
  · have eq2 : s2 = ⟨s2.heap, g, d, s2.toks, os⟩ := by
      obtain ⟨h2, g2, d2, tk2, os2⟩ := s2
      have e1 : g2 = g := mv.gens
      have e2 : d2 = d := mv.drawn
      have e3 : os2 = os := mv.os
      rw [e1, e2, e3]
    rw [eq2]
    refine wpAny_pure (wpAny_pure
        ?_)
    refine h s2.heap s2.toks hS fun b o hb eb => mv.heap b o (fun z => ?_) (Heap.get?_push_of_some _ eb)
    rcases List.mem_cons.mp z with q | q
    · exact hb q
    · exact Nat.ne_of_lt (Heap.lt_size eb) (List.mem_singleton.mp q)
/-- set(list of texts) -/
theorem set_texts {l : Addr} {items : Array Value} {xs : List Str} {Q : Value → Shared → Prop} (calm : A.handled = none) (hl : s.heap.IsList l items) (hi : StrsAre items.toList xs) (room : xs.length + 1 < scanBound)
    (h : ∀ (h' : Heap) (tk : Nat), h'.SetOf (PySem.strKind prog w) s.heap.objs.size (fun y => decide (y ∈ xs)) (unl xs.reverse) → (∀ b o, s.heap.get? b = some o → h'.get? b = some o) → Q (.ref s.heap.objs.size) { s with heap := h', toks := tk }) :
    wpAny (model prog w) A (call (.type
        "set") [.ref l]) Q E s := by
  have ft := PySem.F.called_set
  have a1 := ft.made
  have a2 := ft.sub
  have a3 := ft.notType
  have a4 := ft.canCreate
  have a5 := PySem.F.typeCall_set_1 (.ref l)
  have a6 := ft.init.lookup
  obtain ⟨c, tl, a7⟩ := ft.mro
  have lt : l < s.heap.objs.size := by
    obtain ⟨o, ho, _⟩ := id hl
    exact Heap.lt_size ho
  refine wpAny_call (codeAny_of_tree (wpAny_pure ⟨Code.quiet_builtin _ (by decide +kernel), codeAny_builtin PySem.F.entry_type_call ?_⟩))
  rw [Around.under_plain (weight_type_call_type
      "set" [.ref l] []) rfl]
  repeat (any_goals (first
      | assumption | wp_step))
  refine codeAny_mono (code_set_new_1 (.ref l) (E := E) (Q₁ := fun v t => ∃ led : Bool, v = .ref s.heap.objs.size ∧ t = { s with heap := s.heap.push (emptySet led) }) fun led => ⟨led, rfl, rfl⟩) fun r t hr => ?_
  cases r with
  | error e => exact hr
  | ok fl =>
    cases fl with
    | ret v =>
      obtain ⟨led, rfl, rfl⟩ := hr
      have got : (s.heap.push (emptySet led)).get? s.heap.objs.size = some (emptySet led) := Heap.get?_push_size _ rfl
      have isS : Shared.TypeIs { s with heap := s.heap.push (emptySet led) } (.ref s.heap.objs.size) "set" := ⟨_, got, rfl⟩
      have a8 := ft.init.bind (.ref s.heap.objs.size)
      repeat (any_goals (first
          | assumption | wp_step))
      refine codeAny_mono (codeAny_call_builtin_code (R := wants (fun r t => r = .none ∧ Q (.ref s.heap.objs.size) t) E) (plainId_quiet ft.init.plain _) (check_set_init_1 isS (init_texts (R := fun r t => r = .none ∧ Q (.ref s.heap.objs.size) t) (by simp [calm]) (hl.push _) hi room got (Nat.ne_of_lt lt) fun h' tk hS hk => ⟨rfl, h h' tk hS fun b o eb => hk b o (Nat.ne_of_lt (Heap.lt_size eb)) (Heap.get?_push_of_some _ eb)⟩))) fun r t hr => ?_
      cases r with
      | error e => exact hr
      | ok fl =>
        cases fl with
        | ret r =>
          obtain ⟨rfl, hq⟩ := hr
          repeat (any_goals (first
              | assumption | wp_step))
        | _ => exact hr.elim
    | _ => exact hr.elim
end
end DL
/-! DL, part Z: len(set(texts)), stars in displays, f-texts, comprehensions one by one -/
namespace DL
open PySem PySem.Spec PyProof.Rows L2 StX

section
variable {X : Cx} {Γ : Sg} {O : Ow} {k : KD}
theorem strs_vals : ∀ {xs : List Str} {us : List Value}, Vals (xs.map V.str) us → StrsAre us xs
  | [], _, .nil => .nil
  | x :: xs, _, .cons r t => by
    obtain ⟨u, rfl⟩ := r
    exact .cons x u (strs_vals t)
/-- len(set(e)), e a list of texts -/
theorem we_lenSet {a : Expr} {p p2 q pos : Pos} (b1 : Bn X "len" "len") (b2 : Bt X "set" "set") (hc : X.calm = true) (na : starEach [a] X.env = (false, eval a X.env) :: starEach [] X.env)
    (h : WE X a Γ O fun d O1 => ∃ xs : List Str, SqD O1 d (xs.map .str) ∧ xs.length ≤ 1000 ∧ k (.int (unl xs.reverse : Nat)) O1) : WE X (.Call (.Name "len" p) [.Call (.Name "set" p2) [a] [] q] [] pos) Γ O k := fun σ L H hs hr Q hq => by
  intro pins s I
  refine Call_ (ld_blt I b1.hg b1.hm b1.hv (PyProof.Rows.callWith_builtin1 (PyProof.Rows.args_cons ?_ rfl) rfl rfl))
  refine Call_ (ld_blt I b2.hg b2.hm b2.hv (PyProof.Rows.callWith_type1 (PyProof.Rows.args_cons ?_ na) na rfl))
  refine thn (h σ L H hs hr (fun v H1 => ∃ (l : Addr) (xs : List Str), v = .ref l ∧ SqL X.K H1 l (xs.map V.str) ∧ xs.length ≤ 1000 ∧ Q (.int (unl xs.reverse : Nat)) H1) (fun v d O1 L1 H1 h1 e1 i1 r1 => ?_) pins s I) fun v s1 hv => PyProof.Rows.args_nil ?_
  · obtain ⟨xs, hd, hz, h1⟩ := h1
    obtain ⟨l, vs, rfl, hq2, i2⟩ := sqD_of r1 hd i1
    rw [isL_str i2] at hq2
    exact ⟨l, xs, rfl, hq2, hz, hq _ _ _ _ _ h1 e1 (.int _) r1⟩
  · obtain ⟨_, H1, I1, r1, l, xs, rfl, hq2, hz, q1⟩ := hv
    obtain rfl := r1
    obtain ⟨its, r, pl, _⟩ := I1.list hq2
    have hi : StrsAre its.toArray.toList xs := by simpa using strs_vals r
    refine set_texts (I1.ok.hd hc) pl.isList hi (by unfold scanBound; omega) fun hp2 tk2 hS hk => PyProof.Rows.args_nil ?_
    obtain ⟨o, es, ep, t, ho, hex,
        hd, _, _, _, hf, hn⟩ := hS
    have I2 : Inv X pins σ H1 { s1 with heap := hp2, toks := tk2 } := I1.kept hk
    have le := unl_le xs.reverse
    rw [List.length_reverse] at le
    exact call_len_set ho hex hd hf (by rw [hn]; omega) ⟨.int (unl xs.reverse : Nat), H1, I2.tok _, ⟨_, by rw [hn]⟩, q1⟩

/-! ### e, *e -/
variable {ka : List D → Ow → Prop}
theorem wa_star {e : Expr} {es : List Expr} {p : Pos} (hst : starEach (.Starred e p :: es) X.env = (true, eval e X.env) :: starEach es X.env) (h : WE X e Γ O fun x O1 => ∃ ds, (SqD O1 x ds ∨ x = .tup ds) ∧ WA X es Γ O1 fun gs O2 => ka (ds ++ gs) O2) : WA X (.Starred e p :: es) Γ O ka := fun σ L H hs hr Q q => by
  refine toA (pa_star (pu e) (pau es) hst) ?_
  refine h σ L H hs hr _ fun x dx O1 L1 H1 h1 e1 i1 r1 => ?_
  obtain ⟨ds, hd, h1⟩ := h1
  rcases hd with hd | rfl
  · obtain ⟨a, vs, rfl, hv, i2⟩ := sqD_of r1 hd i1
    refine ⟨a, vs, rfl, .inr hv, ?_⟩
    exact h1 σ L1 H1 (hs.mono e1) r1 _ fun us gs O2 L2 H2 h2 e2 i3 r2 => q _ _ _ _ _ h2 (e1.trans e2) ((i2.mono e2).append i3) r2
  · obtain ⟨a, vs, rfl, hv, i2⟩ := i1.tup'
    refine ⟨a, vs, rfl, .inl (r1.st hv), ?_⟩
    exact h1 σ L1 H1 (hs.mono e1) r1 _ fun us gs O2 L2 H2 h2 e2 i3 r2 => q _ _ _ _ _ h2 (e1.trans e2) ((i2.mono e2).append i3) r2

/-! ### f'..' -/
def WJ (X : Cx) : List Expr → Str → Sg → Ow → (Str → Ow → Prop) → Prop
  | [], acc, _, O, k => k acc O
  | e :: es, acc, Γ, O, k => WE X e Γ O fun d O1 => ∃ y : Str, d = .str y ∧ (acc ++ y).length ≤ sizeLine ∧ WJ X es (acc ++ y) Γ O1 k
theorem pj_univ : ∀ es : List Expr, ∃ ts, PJ X es ts ∧ ∀ (acc : Str) Γ O k, WJ X es acc Γ O k → ∀ σ L H, Sl X.K L σ Γ → R X.K L O H → ∀ Q : Str → Hp → Prop, (∀ z O' L' H', k z O' → L.le L' → R X.K L' O' H' → Q z H') → tJs ts acc σ H Q
  | [] => ⟨[], .nil, fun acc Γ O k h σ L H hs hr Q q => q _ _ _ _ h (.refl L) hr⟩
  | e :: es => by
    obtain ⟨ts, h1, h2⟩ := pj_univ es
    refine ⟨_, .cons (pu e) h1, fun acc Γ O k h σ L H hs hr Q q => ?_⟩
    refine h σ L H hs hr _ fun x dx O1 L1 H1 g e1 i1 r1 => ?_
    obtain ⟨y, rfl, hz, g⟩ := g
    exact ⟨y, i1.str', hz, h2 _ _ _ _ g σ L1 H1 (hs.mono e1) r1 Q fun z O' L' H' hk le r => q _ _ _ _ hk (e1.trans le) r⟩
theorem we_joined {v1 v2 : Expr} {rest : List Expr} {pos : Pos} (h : WJ X (v1 :: v2 :: rest) Str.empty Γ O fun z O1 => k (.str z) O1) : WE X (.JoinedStr (v1 :: v2 :: rest) pos) Γ O k := fun σ L H hs hr Q q => by
  obtain ⟨ts, h1, h2⟩ := pj_univ (X := X) (v1 :: v2 :: rest)
  refine toE (pe_joined h1) ?_
  exact h2 _ _ _ _ h σ L H hs hr _ fun z O' L' H' hk le r => q _ _ _ _ _ hk le (.str z) r
theorem we_fmt {e : Expr} {pos : Pos} (h : WE X e Γ O fun d O1 => (∃ y : Str, d = .str y ∧ y.length ≤ sizeLine ∧ k (.str y) O1) ∨ ∃ i : Int, d = .int i ∧ i.natAbs.log2 < 1920 ∧ k (.str (toString i)) O1) : WE X (.FormattedValue e (-1) none pos) Γ O k := fun σ L H hs hr Q q => by
  refine toE (pe_fmt (pu e)) ?_
  refine h σ L H hs hr _ fun x dx O1 L1 H1 h1 e1 i1 r1 => ?_
  rcases h1 with ⟨y, rfl, hz, h1⟩ | ⟨i, rfl, hz, h1⟩
  · exact .inl ⟨y, i1.str', hz, q _ _ _ _ _ h1 e1 (.str y) r1⟩
  · exact .inr ⟨i, i1.int', hz, q _ _ _ _ _ h1 e1 (.str _) r1⟩
theorem wj_nil {acc : Str} {kj : Str → Ow → Prop} (h : kj acc O) : WJ X [] acc Γ O kj := h
theorem wj_cons {e : Expr} {es : List Expr} {acc : Str} {kj : Str → Ow → Prop} (h : WE X e Γ O fun d O1 => ∃ y : Str, d = .str y ∧ (acc ++ y).length ≤ sizeLine ∧ WJ X es (acc ++ y) Γ O1 kj) : WJ X (e :: es) acc Γ O kj := h

/-! ### comprehensions, item by item -/
section
variable {elt : Expr} {scope : Scope} {vs : List Nat} {t : Tg} {ds : List D} {fin : List D → Prop}
/-- each item gives what p says of it -/
theorem lc_any (p : Nat → D → Prop) (hz : ds.length ≤ 1000) (h : ∀ i d, ds[i]? = some d → ∀ O2, Agr O O2 → ∃ Γ2, tgD t d (wipeD Γ vs) = some Γ2 ∧ BE X scope elt Γ2 O2 fun y O4 => O4 = O2 ∧ p i y)
    (hf : ∀ acc : List D, acc.length = ds.length → (∀ (i : Nat) y, acc[i]? = some y → p i y) → fin acc) : LcD X elt [] scope vs t Γ ds O fin := by
  refine ⟨fun i acc => acc.length = i ∧ ∀ (j : Nat) y, acc[j]? = some y → p j y, ⟨rfl, fun j y e => by simp at e⟩, fun i d acc hd ha O2 ag => ?_, fun acc ha => hf acc ha.1 ha.2⟩
  obtain ⟨hl, hp⟩ := ha
  obtain ⟨Γ2, h1, h2⟩ := h i d hd O2 ag
  refine ⟨Γ2, h1, rfl, iteT fun s H C cl fp => ?_⟩
  refine (h2 s H C cl fp).imp fun y O4 ⟨e, hy⟩ => ⟨e, ?_, ?_, fun j z hj => ?_⟩
  · have := (List.getElem?_eq_some_iff.mp hd).1
    rw [sizeLine_eq]
    omega
  · rw [List.length_append, hl]
    rfl
  · by_cases c : j < acc.length
    · rw [List.getElem?_append_left c] at hj
      exact hp j z hj
    · rw [List.getElem?_append_right (Nat.le_of_not_lt c)] at hj
      have c2 : j - acc.length = 0 := by
        cases q : j - acc.length with
        | zero => rfl
        | succ n => rw [q] at hj; cases hj
      rw [c2] at hj
      obtain rfl : y = z := Option.some.inj hj
      have : j = i := by omega
      rw [this]
      exact hy
/-- each item gives f of its place -/
theorem lc_map (f : Nat → D) (hz : ds.length ≤ 1000) (h : ∀ i d, ds[i]? = some d → ∀ O2, Agr O O2 → ∃ Γ2, tgD t d (wipeD Γ vs) = some Γ2 ∧ BE X scope elt Γ2 O2 fun y O4 => O4 = O2 ∧ y = f i)
    (hf : fin ((List.range ds.length).map f)) : LcD X elt [] scope vs t Γ ds O fin := by
  refine lc_any (fun i y => y = f i) hz h fun acc hl hp => ?_
  have e : acc = (List.range ds.length).map f := by
    refine List.ext_getElem? fun i => ?_
    by_cases c : i < acc.length
    · rw [List.getElem?_eq_getElem c, hp i _ (List.getElem?_eq_getElem c), List.getElem?_map, List.getElem?_range (hl ▸ c)]
      rfl
    · rw [List.getElem?_eq_none (Nat.le_of_not_lt c), List.getElem?_eq_none (by rw [List.length_map, List.length_range]; omega)]
  rw [e]
  exact hf
end
end
end DL
/-! DL, part 1: zip of a tuple and a list, enumerate from a start -/
namespace DL
open L2 PySem
open PySem.Spec PyProof.Rows

/-! ### zip(tuple, list) -/
/-- what it goes over, as it stands at each turn -/
def ItzM (K : PySem.W.Frag) (a b : Addr) : It where
  go i H := ∃ (xs ys : List V) (x y : V), SqT K H a xs ∧ SqL K H b ys ∧ xs[i]? = some x ∧ ys[i]? = some y
  yld i H v H' := ∃ T x y, v = .ref T ∧ H T = none ∧ H' = upd H T (.tup [x, y]) ∧ (∀ xs, SqT K H a xs → xs[i]? = some x) ∧ ∀ ys, SqL K H b ys → ys[i]? = some y
  stop i H := ∃ xs ys : List V, SqT K H a xs ∧ SqL K H b ys ∧ i ≤ xs.length ∧ i ≤ ys.length ∧ (i = xs.length ∨ i = ys.length)
theorem in5 {α : Type} {c z p q r s : α} (h : c ∈ [z, p, q, r, s]) : c = z ∨ c = p ∨ c = q ∨ c = r ∨ c = s := by simpa using h
theorem turn_zipM {P : Program} {w : World} {K : PySem.W.Frag} {elts : List Expr} {kk : Nat} {tpos : Pos} {a b z TI TO i1 i2 : Addr} (D : ZipSep2 z TI TO i1 i2 [i1, a] [i2, b]) (ha : a ≠ i1) (hb : b ≠ i2) :
    Turn P w K (.Tuple elts kk tpos) (ItzM K a b) [z, TI, TO, i1, i2] z (fun i h => IsZip h z TI TO .none ∧ IsTupOf2 h TI (.ref i1) (.ref i2) ∧ (∃ x y, IsTupOf2 h TO x y) ∧ h.IsTupleIter i1 a i ∧ h.IsListIter i2 b i) where
  mem := .head _
  obj := fun i h ⟨q1, q2, ⟨x, y, q3⟩, ⟨o4, q4, _, d4⟩, ⟨o5, q5, _, d5⟩⟩ c hc => by
    rcases in5 hc with rfl | rfl | rfl | rfl | rfl
    · exact ⟨_, q1, fun v e => nomatch e⟩
    · exact ⟨_, q2, fun v e => nomatch e⟩
    · exact ⟨_, q3, fun v e => nomatch e⟩
    · exact ⟨o4, q4, fun v e => by rw [d4] at e; cases e⟩
    · exact ⟨o5, q5, fun v e => by rw [d5] at e; cases e⟩
  keep := fun i h h' ⟨q1, q2, ⟨x, y, q3⟩, q4, q5⟩ k => ⟨k _ (by simp) _ q1, k _ (by simp) _ q2, ⟨x, y, k _ (by simp) _ q3⟩, q4.at fun o e => k _ (by simp) o e, q5.at fun o e => k _ (by simp) o e⟩
  item := by
    intro X hP hw hK hc i pins s σ H E I hf ⟨q1, q2, ⟨x0, y0, q3⟩, q4, q5⟩ ⟨xs, ys, x, y, hx, hy, ex, ey⟩
    subst hP hw hK
    obtain ⟨us, rx, px, _⟩ := I.tuple hx
    obtain ⟨ws, ry, py, _⟩ := I.list hy
    obtain ⟨u, hu, ru⟩ := rx.get ex
    obtain ⟨v, hv, rv⟩ := ry.get ey
    have zl : z < s.heap.objs.size := Heap.lt_size q1
    have lu := (List.getElem?_eq_some_iff.mp hu).1
    have lv := (List.getElem?_eq_some_iff.mp hv).1
    have Du := Draws.tuple (prog := X.prog) (w := X.w) (A := X.A.in1) (I.ok.hd hc) i1 a ha us.toArray
    have Dv := Draws.list (prog := X.prog) (w := X.w) (A := X.A.in1) (I.ok.hd hc) i2 b hb ws.toArray
    refine wpAny_pyNext_zipD2_item D Du Dv q1 q2 q3 ⟨q4, px⟩ ⟨q5, py.isList⟩ (by simpa using lu) (by simpa using lv) fun x1 x2 h1 tk g1 g2 z1 t1 n1 n2 new1 _ k1 => ?_
    obtain rfl : u = x1 := Option.some.inj (hu.symm.trans (by simpa using g1))
    obtain rfl : v = x2 := Option.some.inj (hv.symm.trans (by simpa using g2))
    refine ⟨_, rfl, wpAny_letOwnedTupleGo_zip (s := { s with heap := h1, toks := tk }) z1 fun h2 z2 sb => ?_⟩
    have keep : ∀ c o, c ≠ z → c ≠ TI → c ≠ TO → c ≠ i1 → c ≠ i2 → s.heap.get? c = some o → h2.get? c = some o := fun c o c1 _ c3 c4 c5 e => (sb.2 c c1).trans (k1 c o c1 c3 c4 c5 e)
    have far : s.heap.objs.size ≠ z := Nat.ne_of_gt zl
    have made : h2.get? s.heap.objs.size = some { cls := .type "tuple", data := .seq #[u, v] } := (sb.2 _ far).trans new1
    have okT : ObjOk X.prog X.w (upd H s.heap.objs.size (.tup [x, y])) h2 s.heap.objs.size (.tup [x, y]) := ⟨by show 2 ≤ sizeLine; decide, [u, v], .cons ru (.cons rv .nil), ⟨_, made, rfl, _, rfl⟩⟩
    have I2 : Inv X pins σ (upd H s.heap.objs.size (.tup [x, y])) { s with heap := h2, toks := tk } :=
      I.turnedNew (ch := [z, TI, TO, i1, i2]) (fun c o hc e => keep c o (fun q => hc (by simp [q])) (fun q => hc (by simp [q])) (fun q => hc (by simp [q])) (fun q => hc (by simp [q])) (fun q => hc (by simp [q])) e) hf (Nat.le_refl _) okT
    refine ⟨.ref s.heap.objs.size, _, I2, rfl, ⟨_, x, y, rfl, I.hok.fresh (Nat.le_refl _), rfl, fun l hl => (by rw [I.tuple_inj hl hx]; exact ex), fun l hl => (by rw [I.list_inj hl hy]; exact ey)⟩, ⟨z2, ?_, ⟨u, v, ?_⟩, ?_, ?_⟩, fun c hcm => ?_⟩
    · exact (sb.2 _ D.TIz).trans (k1 _ _ D.TIz D.TITO D.TIi1 D.TIi2 q2)
    · exact (sb.2 _ D.TOz).trans t1
    · exact n1.1.at fun o e => (sb.2 _ (Ne.symm D.zi1)).trans e
    · exact n2.1.at fun o e => (sb.2 _ (Ne.symm D.zi2)).trans e
    · have old : c < s.heap.objs.size := by
        rcases in5 hcm with rfl | rfl | rfl | rfl | rfl
        · exact zl
        · exact Heap.lt_size q2
        · exact Heap.lt_size q3
        · obtain ⟨_, e, _⟩ := q4
          exact Heap.lt_size e
        · obtain ⟨_, e, _⟩ := q5
          exact Heap.lt_size e
      rw [upd_ne (Nat.ne_of_lt old)]
      exact (hf c hcm).1
  done := by
    intro X hP hw hK hc i pins s σ H E I hf ⟨q1, q2, ⟨x0, y0, q3⟩, q4, q5⟩ ⟨xs, ys, hx, hy, le1, le2, hend⟩
    subst hP hw hK
    obtain ⟨us, rx, px, _⟩ := I.tuple hx
    obtain ⟨ws, ry, py, _⟩ := I.list hy
    have l1 := rx.length
    have l2 := ry.length
    have Du := Draws.tuple (prog := X.prog) (w := X.w) (A := X.A.in1) (I.ok.hd hc) i1 a ha us.toArray
    have Dv := Draws.list (prog := X.prog) (w := X.w) (A := X.A.in1) (I.ok.hd hc) i2 b hb ws.toArray
    have n1 : i ≤ us.toArray.size := by rw [List.size_toArray]; omega
    have n2 : i ≤ ws.toArray.size := by rw [List.size_toArray]; omega
    have n3 : i = us.toArray.size ∨ i = ws.toArray.size := by rw [List.size_toArray, List.size_toArray]; omega
    exact wpAny_pyNext_zipD2_end D Du Dv q1 q2 q3 ⟨q4, px⟩ ⟨q5, py.isList⟩ n1 n2 n3 fun h1 tk k1 => ⟨rfl, I.turnedL (t' := tk) (ch := [z, TI, TO, i1, i2]) (fun c o hc e => k1 c o (fun q => hc (by simp [q])) (fun q => hc (by simp [q])) (fun q => hc (by simp [q])) (fun q => hc (by simp [q])) e) hf⟩
  self := fun A i s Q E st h
      => wpAny_pyIter_zip st.1 h
theorem pi_zipM {X : Cx} {e e2 : Expr} {ta : TA} {p pos tpos : Pos} {elts : List Expr} {kk : Nat} (hg : Gl X "zip") (hm : X.mg "zip" = none) (ha : PA X [e, e2] ta)
    (hs : starEach [e, e2] X.env = (false, eval e X.env) :: starEach [e2] X.env) (hpl : (backTo pos (starEach [e2] X.env)).any (·.1) = false) :
    PI X (.Tuple elts kk tpos) (.Call (.Name "zip" p) [e, e2] [] pos) (fun σ H R => ta σ H fun vs H1 => ∃ (a b : Addr) (xs ys : List V), vs = [.ref a, .ref b] ∧ SqT X.K H1 a xs ∧ SqL X.K H1 b ys ∧ R (ItzM X.K a b) H1) := by
  refine ⟨fun pins s
      σ H R I h => ?_⟩
  refine Call_ (ld_blt I hg hm PyProof.Rows.boot_zip (PyProof.Rows.callWith_type1 (thn (ha.run pos pins s σ H _ I h) fun us s1 hv => ?_) hs hpl))
  obtain ⟨vs, H1, I1, r1, a, b, xs, ys, rfl, hx, hy, q⟩ := hv
  cases r1 with
  | cons ra rest =>
    cases rest with
    | cons rb rest =>
      cases rest
      cases ra
      cases rb
      obtain ⟨us, rx, px, _⟩ := I1.tuple hx
      obtain ⟨ws, ry, py, _⟩ := I1.list hy
      obtain ⟨oa, ea, _⟩ := id px
      obtain ⟨ob, eb, _⟩ := id py.isList
      have la : @LT.lt Nat _ a s1.heap.objs.size := Heap.lt_size ea
      have lb : @LT.lt Nat _ b s1.heap.objs.size := Heap.lt_size eb
      have na : ∀ m : Nat, a ≠ s1.heap.objs.size + m := fun m => Nat.ne_of_lt (Nat.lt_of_lt_of_le la (Nat.le_add_right _ m))
      have nb : ∀ m : Nat, b ≠ s1.heap.objs.size + m := fun m => Nat.ne_of_lt (Nat.lt_of_lt_of_le lb (Nat.le_add_right _ m))
      refine zip_begins2 (begins_tuple a us.toArray) (begins_list b ws.toArray) px py.isList fun h' z1 z2 z3 z4 z5 zs hk => wpAny_pyIter_zip z1 ?_
      have I2 : Inv X pins σ H1 { s1 with heap
          := h' } := I1.kept (t' := s1.toks) hk
      have young : ∀ c ∈ [s1.heap.objs.size + 4, s1.heap.objs.size + 2, s1.heap.objs.size + 3, s1.heap.objs.size, s1.heap.objs.size + 1], FpOk X pins H1 c := fun c hc => by
        have le : s1.heap.objs.size ≤ c := by
          rcases in5 hc with rfl | rfl | rfl | rfl | rfl <;> omega
        exact I1.fpOk le (I1.hok.fresh le)
      have D : ZipSep2 (s1.heap.objs.size + 4) (s1.heap.objs.size + 2) (s1.heap.objs.size + 3) s1.heap.objs.size (s1.heap.objs.size + 1) [s1.heap.objs.size, a] [s1.heap.objs.size + 1, b] := by
        constructor <;> simp [Ne.symm (na 4), Ne.symm (na 3), Ne.symm (na 1), Ne.symm (nb 4), Ne.symm (nb 3), Ne.symm (nb 0)]
        all_goals first | exact Ne.symm (nb 0) | exact Ne.symm (na 1) | omega
      exact ⟨s1.heap.objs.size + 4, _, _, _, H1, rfl, I2, turn_zipM D (na 0) (nb 1), ⟨z1, z2, ⟨_, _, z3⟩, ⟨_, z4, rfl, rfl⟩, ⟨_, z5, rfl, rfl⟩⟩, young, q⟩
theorem walk_zipM {K : PySem.W.Frag} {a b : Addr} {xs ys : List V} {n : Nat} (hn : n = min xs.length ys.length) : Walk (ItzM K a b) n (fun H => SqT K H a xs ∧ SqL K H b ys) (YPair (fun i => xs[i]?) (fun i => ys[i]?)) := by
  subst hn
  refine ⟨fun i _ hi q => ?_, fun _ q => ⟨xs, ys, q.1, q.2, by omega, by omega, by omega⟩, fun i H v H' _ q ⟨T, x, z, g1, g2, g3, g4, g5⟩ => ⟨T, x, z, g1, g2, g3, g4 xs q.1, g5 ys q.2⟩⟩
  have c1 : i < xs.length := by omega
  have c2 : i < ys.length := by omega
  exact ⟨xs, ys, _, _, q.1, q.2, List.getElem?_eq_getElem c1, List.getElem?_eq_getElem c2⟩
section
variable {X : Cx} {Γ : Sg} {O : Ow} {tg : Expr} {κ : List D → Ow → Prop}
theorem isL_nth {K : PySem.W.Frag} {L L2 : Lg} {us : List V} {ds : List D} {i : Nat} (t : IsL K L us ds) (le : L.le L2) (h : i < ds.length) : ∀ v, us[i]? = some v → Is K L2 v ds[i] := fun v e => by
  obtain ⟨d', g1, g2⟩ := t.getV e
  rw [List.getElem?_eq_getElem h] at g1
  rw [Option.some.inj g1]
  exact g2.mono le
theorem it_zipM {e e2 : Expr} {p pos tpos : Pos} {elts : List Expr} {kk : Nat} (hg : Gl X "zip") (hm : X.mg "zip" = none) (hst : starEach [e, e2] X.env = (false, eval e X.env) :: starEach [e2] X.env) (hpl : (backTo pos (starEach [e2] X.env)).any (·.1) = false)
    (h : WA X [e, e2] Γ O fun xs O1 => ∃ ds es, xs = [.tup ds, .lst es] ∧ κ (zipD ds es) O1) : ItD X (.Tuple elts kk tpos) (.Call (.Name "zip" p) [e, e2] [] pos) Γ O κ := by
  refine ⟨_, pi_zipM hg hm (pau [e, e2]) hst hpl, fun σ L H hs hr RR q => ?_⟩
  refine h σ L H hs hr _ fun vs xs O1 L1 H1 h1 e1 i1 r1 => ?_
  obtain ⟨ds, es, rfl, h1⟩ := h1
  obtain ⟨v, u, rfl, i1, i2⟩ := i1.two'
  obtain ⟨a, us, rfl, s, t⟩ := i1.tup'
  obtain ⟨b, ws, rfl, s', t'⟩ := i2.lst'
  refine ⟨a, b, us, ws, rfl, r1.st s, .inl (.inl (r1.hp _ _ s')), ?_⟩
  refine q _ _ (fun H => SqT X.K H a us ∧ SqL X.K H b ws) _ O1 L1 H1 h1 e1 (walk_zipM (by rw [zipD_len, t.length, t'.length])) (fun L2 O2 H2 le r => ⟨r.st (le_st le s), .inl (.inl (r.hp _ _ (le.hp _ _ s')))⟩) (fun i x L2 O2 H2 H3 hi le r y => ?_) r1
  rw [zipD_len] at hi
  have h1 : i < ds.length := by omega
  have h2 : i < es.length := by omega
  obtain ⟨L3, le3, r3, is⟩ := pair_new (d := ds[i]) (e := es[i]) r y (isL_nth t le h1) (isL_nth t' le h2)
  exact ⟨L3, _, le3, r3, zipD_at (List.getElem?_eq_getElem h1) (List.getElem?_eq_getElem h2), is⟩
end
end DL
/-! DL, part 2: enumerate(list, start=n) -/
namespace DL
open L2 PySem
open PySem.Spec PyProof.Rows

def ItnS (K : PySem.W.Frag) (a : Addr) (n : Int) : It where
  go i H := ∃ (xs : List V) (x : V), SqL K H a xs ∧ xs[i]? = some x
  yld i H v H' := ∃ T x, v = .ref T ∧ H T = none ∧ H' = upd H T (.tup [.int (n + (i : Nat)), x]) ∧ ∀ xs, SqL K H a xs → xs[i]? = some x
  stop i H := ∃ xs : List V, SqL K H a xs ∧ xs.length = i
theorem turn_from {P : Program} {w : World} {K : PySem.W.Frag} {elts : List Expr} {kk : Nat} {tpos : Pos} {n : Int} {a e it : Addr} (h1 : e ≠ it) (h2 : a ≠ it) (h3 : e ≠ a) :
    Turn P w K (.Tuple elts kk tpos) (ItnS K a n) [e, it] e (fun i h => (∃ old, IsEnum h e it (n + (i : Nat)) old) ∧ h.IsListIter it a i) where
  mem := .head _
  obj := fun i h ⟨⟨old, q1⟩, ⟨o, q2, _, d2⟩⟩ c hc => by
    rcases List.mem_cons.mp
        hc with rfl | hc
    · exact ⟨_, q1, fun v e => nomatch e⟩
    · rw [List.mem_singleton.mp hc]
      exact ⟨o, q2, fun v e => by rw [d2] at e; cases e⟩
  keep := fun i h h' ⟨⟨old, q1⟩, q2⟩ k => ⟨⟨old, k _ (by simp) _ q1⟩, q2.at fun o x => k _ (by simp) o x⟩
  item := by
    intro X hP hw hK hc i pins s σ H E I hf ⟨⟨old, q1⟩, q2⟩ ⟨xs, x, hx, ex⟩
    subst hP hw hK
    obtain ⟨us, rx, px, _⟩ := I.list hx
    obtain ⟨u, hu, ru⟩ := rx.get ex
    have lu := (List.getElem?_eq_some_iff.mp hu).1
    have el : e < s.heap.objs.size := Heap.lt_size q1
    have il : it < s.heap.objs.size := by obtain ⟨_, q, _⟩ := id q2; exact Heap.lt_size q
    have Du := Draws.list (prog := X.prog) (w := X.w) (A := X.A.in1) (I.ok.hd hc) it a h2 us.toArray
    refine wpAny_pyNext_enum_itemC Du q1 ⟨q2, px.isList⟩ (by simpa using lu) h1 (by simp [h1, h3]) fun x1 g tk g1 out st new1 _ k1 => ?_
    obtain rfl : u = x1 := Option.some.inj (hu.symm.trans (by simpa using g1))
    refine ⟨_, rfl, wpAny_letOwnedTupleGo_enum (s := { s with heap := g, toks := tk + 1 }) out fun g2 en sb => ?_⟩
    have far : s.heap.objs.size ≠ e := Nat.ne_of_gt el
    have keep : ∀ c o, c ≠ e → c ≠ it → s.heap.get? c = some o → g2.get? c = some o := fun c o c1 c2 q => (sb.2 c c1).trans (k1 c o c1 c2 q)
    have made : g2.get? s.heap.objs.size = some { cls := .type "tuple", data := .seq #[.int (n + (i : Nat)) tk, u] } := (sb.2 _ far).trans new1
    have okT : ObjOk X.prog X.w (upd H s.heap.objs.size (.tup [.int (n + (i : Nat)), x])) g2 s.heap.objs.size (.tup [.int (n + (i : Nat)), x]) := ⟨by show 2 ≤ sizeLine; decide, [.int (n + (i : Nat)) tk, u], .cons ⟨_, rfl⟩ (.cons ru .nil), ⟨_, made, rfl, _, rfl⟩⟩
    have I2 : Inv X pins σ (upd H s.heap.objs.size (.tup [.int (n + (i : Nat)), x])) { s with heap := g2, toks := tk + 1 } :=
      I.turnedNew (ch := [e, it]) (fun c o hc q => keep c o (fun z => hc (by simp [z])) (fun z => hc (by simp [z])) q) hf (Nat.le_refl _) okT
    refine ⟨.ref s.heap.objs.size, _, I2, rfl, ⟨_, x, rfl, I.hok.fresh (Nat.le_refl _), rfl, fun l hl => (by rw [I.list_inj hl hx]; exact ex)⟩, ⟨⟨u, ?_⟩, st.1.at fun o q => (sb.2 it (Ne.symm h1)).trans q⟩, fun c hcm => ?_⟩
    · have e1 : n + ((i + 1 : Nat) : Int) = n + (i : Int) + 1 := by omega
      rw [e1]
      exact en
    · have old : c < s.heap.objs.size := by
        rcases List.mem_cons.mp hcm with rfl | hcm
        · exact el
        · rw [List.mem_singleton.mp hcm]; exact il
      rw [upd_ne (Nat.ne_of_lt old)]
      exact (hf c hcm).1
  done := by
    intro X hP hw hK hc i pins s σ H E I hf ⟨⟨old, q1⟩, q2⟩ ⟨xs, hx, le⟩
    subst hP hw hK
    obtain ⟨us, rx, px, _⟩ := I.list hx
    have lu := rx.length
    have Du := Draws.list (prog := X.prog) (w := X.w) (A := X.A.in1) (I.ok.hd hc) it a h2 us.toArray
    obtain ⟨f0, f1, f2, f3,
        f4, f5⟩ := hf it (by simp)
    have ei : us.toArray.size = i := by rw [List.size_toArray]; omega
    refine wpAny_pyNext_enum_endD Du q1 ⟨by rw [ei]; exact q2, px.isList⟩ fun h' eb => ⟨rfl, I.turned (t' := s.toks) (fun b o hb q => eb b o hb q) f0 f1 f3 f4 f5⟩
  self := fun A i s Q E st h => let ⟨⟨_,
      he⟩, _⟩ := st; wpAny_pyIter_enum he h
section
variable {M : Model} {A : Around} {E : Value
    → Shared → Prop} {s : Shared} {env : Env}
/-- T(a, .., k=v): the call of a built-in class -/
theorem type_kw {pos : Pos} {T : String} {e : Expr} {rest : List Expr} {kws : List Keyword} {Q : Value → Shared → Prop} (he : backTo pos (starEach (e :: rest) env) = (false, eval e env) :: backTo pos (starEach rest env))
    (hp : (backTo pos (starEach (e :: rest) env)).any (·.1) = false) (ha : (backToKw pos (keywordEach kws env)).all (·.1.isSome) = true) (hn : (backToKw pos (keywordEach kws env)).any (·.1.isNone) = false)
    (h : wpAny M A (spliced (backTo pos (starEach (e :: rest) env))) (fun vs t => wpAny M A (evalAll ((backToKw pos (keywordEach kws env)).map (·.2))) (fun us t => wpAny M A (call (.type T) vs (((backToKw pos (keywordEach kws env)).filterMap (·.1)).zip us)) Q E t) E t) E s) :
    wpAny M A (callWith pos (.type T) [] (backTo pos (starEach (e :: rest) env)) (backToKw pos (keywordEach kws env))) Q E s := by
  unfold callWith
  have h2 : wpAny M A (evalArgs (.type T) true (backTo pos (starEach (e :: rest) env)) (backToKw pos (keywordEach kws env))) (fun a t => wpAny M A (call (.type T) a.pos a.kw) Q E t) E s := by
    rw [he] at h ⊢
    exact evalArgs_kwB ha h
  refine wpAny_bind (wpAny_holding (wpAny_mono h2 (fun a t ht => wpAny_bind (wpAny_standAt ?_)) fun _ _ x => x))
  simp only [hp, hn, Bool.or_false]
  refine wpAny_bind (wpAny_pure (wpAny_bind (wpAny_mono ht (fun r t hr => ?_) fun _ _ x => x)))
  exact wpAny_bind (wpAny_holding (wpAny_point (wpAny_pure hr)))
end
theorem pi_from {X : Cx} {e c : Expr} {ta : TA} {tk : TA} {p pos tpos kpos : Pos} {elts : List Expr} {kk : Nat} (hg : Gl X "enumerate") (hm : X.mg "enumerate" = none) (ha : PA X [e] ta) (hk : PK X [⟨some "start", c, kpos⟩] tk)
    (h1 : backTo pos (starEach [e] X.env) = (false, eval e X.env) :: backTo pos (starEach [] X.env)) (h2 : (backTo pos (starEach [e] X.env)).any (·.1) = false) (h3 : (backToKw pos (keywordEach [⟨some "start", c, kpos⟩] X.env)).all (·.1.isSome) = true)
    (h4 : (backToKw pos (keywordEach [⟨some "start", c, kpos⟩] X.env)).any (·.1.isNone) = false) (h5 : (backToKw pos (keywordEach [⟨some "start", c, kpos⟩] X.env)).filterMap (·.1) = [Str.ofString "start"]) :
    PI X (.Tuple elts kk tpos) (.Call (.Name "enumerate" p) [e] [⟨some "start", c, kpos⟩] pos) (fun σ H R => ta σ H fun vs H1 => tk σ H1 fun ks H2 => ∃ (a : Addr) (xs : List V) (n : Int), vs = [.ref a] ∧ ks = [.int n] ∧ -(2 ^ 63) ≤ n ∧ n < 2 ^ 63 ∧ SqL X.K H2 a xs ∧ R (ItnS X.K a n) H2) := by
  refine ⟨fun pins s
      σ H R I h => ?_⟩
  refine wpAny_Call_Name_kw (ld_blt I hg hm boot_enumerate (type_kw h1 h2 h3 h4 ?_))
  refine thn (ha.run pos pins s σ H _ I h) fun us s1 hv => ?_
  obtain ⟨vs, H1, I1, r1, q1⟩ := hv
  refine thn (hk.run pos pins s1 σ H1 _ I1 q1) fun us2 s2 hv => ?_
  obtain ⟨ks, H2, I2, r2, a, xs, n, rfl, rfl, n1, n2, hx, q⟩ := hv
  cases r1 with
  | cons ra rest =>
    cases rest
    cases ra
    cases r2 with
    | cons rb rest =>
      cases rest
      obtain ⟨tn, rfl⟩ := rb
      rw [h5]
      obtain ⟨us, rx, px, _⟩ := I2.list hx
      obtain ⟨oa, ea, _⟩ := id px.isList
      have la : @LT.lt Nat _ a s2.heap.objs.size := Heap.lt_size ea
      refine enum_begins_start (begins_list a us.toArray) px.isList n1 n2 fun h' z1 z2 zs hk => wpAny_pyIter_enum z1 ?_
      have I3 : Inv X pins σ H2 { s2 with heap := h' } := I2.kept (t' := s2.toks) hk
      have young : ∀ c ∈ [s2.heap.objs.size + 1, s2.heap.objs.size], FpOk X pins H2 c := fun c hc => by
        have le : s2.heap.objs.size ≤ c := by
          rcases List.mem_cons.mp
              hc with rfl | hc
          · exact Nat.le_succ _
          · rw [List.mem_singleton.mp hc]; exact Nat.le_refl _
        exact I2.fpOk le (I2.hok.fresh le)
      refine ⟨s2.heap.objs.size + 1, [s2.heap.objs.size + 1, s2.heap.objs.size], _, _, H2, rfl, I3, turn_from (a := a) (it := s2.heap.objs.size) (n := n) (Nat.succ_ne_self _) (Nat.ne_of_lt la) (Nat.ne_of_gt (Nat.lt_succ_of_lt la)), ⟨⟨.none, ?_⟩, ⟨_, z2, rfl, rfl⟩⟩, young, q⟩
      show IsEnum h' _ _ (n + ((0 : Nat) : Int)) _
      rw [show n + ((0 : Nat) : Int) = n from Int.add_zero n]
      exact z1
theorem walk_from {K : PySem.W.Frag} {a : Addr} {xs : List V} {n : Int} : Walk (ItnS K a n) xs.length (fun H => SqL K H a xs) (YPair (fun i => some (.int (n + (i : Nat)))) (fun i => xs[i]?)) := by
  refine ⟨fun i _ hi q => ⟨xs, _, q, List.getElem?_eq_getElem hi⟩, fun _ q => ⟨xs, q, rfl⟩, fun i H v H' _ q ⟨T, x, g1, g2, g3, g4⟩ => ⟨T, _, x, g1, g2, g3, rfl, g4 xs q⟩⟩
def enumF (n : Int) (ds : List D) : List D := ds.zipIdx.map fun p => .tup [.int (n + (p.2 : Nat)), p.1]
theorem enumF_len (n : Int) (ds : List D) : (enumF n ds).length = ds.length := by simp [enumF]
theorem enumF_at {n : Int} {ds : List D} {i : Nat} {d : D} (h : ds[i]? = some d) : (enumF n ds)[i]? = some (.tup [.int (n + (i : Nat)), d]) := by
  simp [enumF, h]
section
variable {X : Cx} {Γ : Sg} {O : Ow} {κ : List D → Ow → Prop}
theorem it_from {e c : Expr} {p pos tpos kpos : Pos} {elts : List Expr} {kk : Nat} (hg : Gl X "enumerate") (hm : X.mg "enumerate" = none)
    (h1 : backTo pos (starEach [e] X.env) = (false, eval e X.env) :: backTo pos (starEach [] X.env)) (h2 : (backTo pos (starEach [e] X.env)).any (·.1) = false) (h3 : (backToKw pos (keywordEach [⟨some "start", c, kpos⟩] X.env)).all (·.1.isSome) = true)
    (h4 : (backToKw pos (keywordEach [⟨some "start", c, kpos⟩] X.env)).any (·.1.isNone) = false) (h5 : (backToKw pos (keywordEach [⟨some "start", c, kpos⟩] X.env)).filterMap (·.1) = [Str.ofString "start"])
    (h : WA X [e] Γ O fun xs O1 => WK X [⟨some "start", c, kpos⟩] Γ O1 fun ks O2 => ∃ ds n, xs = [.lst ds] ∧ ks = [.int n] ∧ -(2 ^ 63) ≤ n ∧ n < 2 ^ 63 ∧ κ (enumF n ds) O2) :
    ItD X (.Tuple elts kk tpos) (.Call (.Name "enumerate" p) [e] [⟨some "start", c, kpos⟩] pos) Γ O κ := by
  refine ⟨_, pi_from hg hm (pau [e]) (pku _) h1 h2 h3 h4 h5, fun σ L H hs hr RR q => ?_⟩
  refine h σ L H hs hr _ fun vs xs O1 L1 H1 g1 e1 i1 r1 => ?_
  refine g1 σ L1 H1 (hs.mono e1) r1 _ fun us ks O2 L2 H2 g2 e2 i2 r2 => ?_
  obtain ⟨ds, n, rfl, rfl, n1, n2, g2⟩ := g2
  obtain ⟨v, rfl, j1⟩ := i1.one'
  obtain ⟨u, rfl, j2⟩ := i2.one'
  obtain ⟨a, ws, rfl, s, t⟩ := j1.lst'
  rw [j2.int']
  have s2 := e2.hp _ _ s
  refine ⟨a, ws, n, rfl, rfl, n1, n2, .inl (.inl (r2.hp _ _ s2)), ?_⟩
  refine q _ _ (fun H => SqL X.K H a ws) _ O2 L2 H2 g2 (e1.trans e2) (by rw [enumF_len, ← t.length]; exact walk_from) (fun L3 O3 H3 le r => .inl (.inl (r.hp _ _ (le.hp _ _ s2)))) (fun i x L3 O3 H3 H4 hi le r y => ?_) r2
  rw [enumF_len] at hi
  obtain ⟨L4, le4, r4, is⟩ := pair_new (d := .int (n + (i : Nat))) (e := ds[i]) r y (fun v e => by cases e; exact .int _) (isL_nth t (e2.trans le) hi)
  exact ⟨L4, _, le4, r4, enumF_at (List.getElem?_eq_getElem hi), is⟩
end
section
variable {X : Cx} {Γ : Sg} {O : Ow} {k : KD} {e : Expr} {elt : Expr} {scope : Scope} {vs : List Nat} {t : Tg} {fin : List D → Prop}
/-- facts handed to an expression -/
theorem e_va {x : Str} {i : Nat} (hv : Va X x i) (h : Va X x i → WE X e Γ O k) : WE X e Γ O k := h hv
theorem e_gd {x : Str} {d : D} (hv : Gd X x d) (h : Gd X x d → WE X e Γ O k) : WE X e Γ O k := h hv
theorem e_kn {x : Str} {j : Nat} {S : SpD} (hv : Kn X x j S) (h : Kn X x j S → WE X e Γ O k) : WE X e Γ O k := h hv
theorem e_bn {x : Str} {id : String} (hv : Bn X x id) (h : Bn X x id → WE X e Γ O k) : WE X e Γ O k := h hv
theorem e_bt {x : Str} {T : String} (hv : Bt X x T) (h : Bt X x T → WE X e Γ O k) : WE X e Γ O k := h hv
def All2 {α : Type} (p : α → D → Prop) (l : List α) (ds : List D) : Prop := ds.length = l.length ∧ ∀ (i : Nat) a y, l[i]? = some a → ds[i]? = some y → p a y
theorem All2.cons {α : Type} {p : α → D → Prop} {a : α} {l : List α} {ds : List D} (h : All2 p (a :: l) ds) : ∃ y es, ds = y :: es ∧ p a y ∧ All2 p l es := by
  obtain ⟨h1, h2⟩ := h
  cases ds with
  | nil => simp at h1
  | cons y es => exact ⟨y, es, rfl, h2 0 a y rfl rfl, by simpa using h1, fun i b z e1 e2 => h2 (i + 1) b z e1 e2⟩
theorem All2.nil {α : Type} {p : α → D → Prop} {ds : List D} (h : All2 p [] ds) : ds = [] := List.eq_nil_of_length_eq_zero h.1
theorem lc_anyL {α : Type} (l : List α) (g : α → D) (p : α → D → Prop) (hz : l.length ≤ 1000) (h : ∀ a, a ∈ l → ∀ O2, Agr O O2 → ∃ Γ2, tgD t (g a) (wipeD Γ vs) = some Γ2 ∧ BE X scope elt Γ2 O2 fun y O4 => O4 = O2 ∧ p a y)
    (hf : ∀ acc : List D, All2 p l acc → fin acc) : LcD X elt [] scope vs t Γ (l.map g) O fin := by
  refine lc_any (fun i y => ∃ a, l[i]? = some a ∧ p a y) (by rw [List.length_map]; exact hz) (fun i d hd O2 ag => ?_) fun acc hl hp => ?_
  · rw [List.getElem?_map] at hd
    cases ha : l[i]? with
    | none => rw [ha] at hd; cases hd
    | some a =>
      rw [ha] at hd
      obtain rfl := Option.some.inj hd
      obtain ⟨Γ2, h1, h2⟩ := h a (List.mem_of_getElem? ha) O2 ag
      exact ⟨Γ2, h1, fun s H C cl fp => (h2 s H C cl fp).imp fun y O4 ⟨e1, hy⟩ => ⟨e1, a, rfl, hy⟩⟩
  · refine hf acc ⟨by rw [hl, List.length_map], fun i a y ha hy => ?_⟩
    obtain ⟨b, hb, hp⟩ := hp i y hy
    rw [ha] at hb
    rw [Option.some.inj hb]
    exact hp
theorem all2_map {α : Type} {f : α → D} : ∀ {l : List α} {acc : List D}, All2 (fun a y => y = f a) l acc → acc = l.map f
  | [], _, h => h.nil
  | a :: l, acc, h => by
    obtain ⟨y, es, rfl, rfl, h2⟩ := h.cons
    rw [all2_map h2]
    rfl
theorem lc_mapL {α : Type} (l : List α) (g : α → D) (f : α → D) (hz : l.length ≤ 1000) (h : ∀ a, a ∈ l → ∀ O2, Agr O O2 → ∃ Γ2, tgD t (g a) (wipeD Γ vs) = some Γ2 ∧ BE X scope elt Γ2 O2 fun y O4 => O4 = O2 ∧ y = f a)
    (hf : fin (l.map f)) : LcD X elt [] scope vs t Γ (l.map g) O fin := lc_anyL l g (fun a y => y = f a) hz h fun acc ha => by
  rw [all2_map ha]
  exact hf
end
/-! ### an own class under a local name -/
section
variable {X : Cx} {Γ : Sg} {O : Ow} {k : KD}
structure Kl (X : Cx) (C : Addr) (j : Nat) (S : SpD) : Prop where
  ex : ∃ (f : Addr) (fd : FuncData) (ps : List Str), FnG X.prog X.w X.K X.mg X.base CX0 j f fd ps (spOf X.K S) ∧ Mk X.K C f ∧ Binds X.K fd ps []
theorem Pc.kl {P : Program} {w : World} {K : PySem.W.Frag} {mg : Str → Option Value} {base : Heap} {x : Str} {C : Addr} {j : Nat} {S : SpD} (F : Pc P w K mg base x C j S) {X : Cx} (e1 : X.prog = P) (e2 : X.w = w) (e3 : X.K = K) (e4 : X.mg = mg) (e5 : X.base = base) : Kl X C j S := by
  subst e1 e2 e3 e4 e5
  exact ⟨F.ex⟩
/-- x(e, ..), x a name of a slot that holds the class -/
theorem we_makeS {x : Str} {i : Nat} {C : Addr} {j : Nat} {S : SpD} {e : Expr} {es : List Expr} {p pos : Pos} (F : Kl X C j S) (hx : Va X x i) (hi : Γ[i]? = some (some (.own C))) (hgd : X.A.guards = some []) (hr : Room (j + 1) X.A) (he : starEach (e :: es) X.env = (false, eval e X.env) :: starEach es X.env) (hpl : (backTo pos (starEach es X.env)).any (·.1) = false)
    (h : WA X (e :: es) Γ O fun ds O1 => ∀ p, O1 p = none → S (.own p :: ds) (put O1 p (.ins C [])) (fun d O2 => d = .non ∧ Fz k (.own p) O2) fun _ _ _ => False) : WE X (.Call (.Name x p) (e :: es) [] pos) Γ O k := we_fz fun σ L H hs hR Q q pins s I => by
  obtain ⟨f, fd, ps, G, M, hb⟩ := F.ex
  obtain ⟨vc, ec, ic⟩ := hs.at_ i _ hi
  obtain rfl := ic.own'
  refine wpAny_Call_Name_kw (thn ((we_var (k := fun d O1 => d = .own C ∧ O1 = O) (pos := p) hx hi ⟨rfl, rfl⟩) σ L H hs hR (fun v H1 => v = .ref C ∧ ∃ L1, L.le L1 ∧ R X.K L1 O H1) (fun v d O1 L1 H1 ⟨a, b⟩ le i1 r1 => by subst a; subst b; exact ⟨i1.own', L1, le, r1⟩) pins s I) fun u0 s0 ⟨v0, H0, I0, r0, e0, L00, le0, R0⟩ => ?_)
  subst e0
  cases r0
  refine PySem.W.callWith_K (h₀ := X.base) I.ok.mod.kin M.kp (thn (h σ L00 H0 (hs.mono le0) R0 (fun vs H1 => ∃ ds O1 L1, (∀ p, O1 p = none → S (.own p :: ds) (put O1 p (.ins C [])) (fun d O2 => d = .non ∧ Fz k (.own p) O2) fun _ _ _ => False) ∧ L.le L1 ∧ IsL X.K L1 vs ds ∧ R X.K L1 O1 H1) (fun vs ds O1 L1 H1 a b c d => ⟨ds, O1, L1, a, le0.trans b, c, d⟩) pos pins s0 I0)
    fun us s1 ⟨vs, H1, I1, rv, ds, O1, L1, h1, le1, is1, r1⟩ => ⟨I1.kIn, ?_⟩) he hpl
  have n1 : H1 (s1.heap.objs.size + 1) = none := I1.hok.fresh (Nat.le_succ _)
  have n2 : H1 s1.heap.objs.size = none := I1.hok.fresh (Nat.le_refl _)
  have ne : s1.heap.objs.size + 1 ≠ s1.heap.objs.size := Nat.succ_ne_self _
  have I2 := Inv.made (C := C) I1
  have ra := r1.aside (o := .own (s1.heap.objs.size + 1)) n2
  have n3 : upd H1 s1.heap.objs.size (.own (s1.heap.objs.size + 1)) (s1.heap.objs.size + 1) = none := by rw [upd_ne ne]; exact n1
  have rb := ra.newOwn (p := s1.heap.objs.size + 1) (o := .ins C s1.heap.objs.size []) (od := .ins C []) n3 ⟨_, [], upd_same, rfl, .nil⟩
  have sp := sp_of (K := X.K) (L := L1) (Q := fun v H2 => v = .non ∧ Q (.ref (s1.heap.objs.size + 1)) H2) (h1 _ (ra.free n3).2.1) (.cons (.own (s1.heap.objs.size + 1)) is1) rb fun v d O2 L2 H2 ⟨hd, hk⟩ le2 i2 r2 => by
    subst hd
    exact ⟨i2.non', q _ _ _ _ _ hk (le1.trans le2) (.own _) r2⟩
  have r2 : Vals (V.ref (s1.heap.objs.size + 1) :: vs) (Value.ref (s1.heap.objs.size + 1) :: us) := .cons rfl rv
  have hl : (Value.ref (s1.heap.objs.size + 1) :: us ++ []).length = ps.length := by
    rw [List.append_nil, ← r2.length]; exact G.ln _ _ _ _ sp
  refine wpAny_call (make_map (f := f) I1.kIn M.makes M.init (beq_iff_eq.mp M.fn) (codeAny_mono (G.go _ X.stack _ _ ⟨Value.ref (s1.heap.objs.size + 1) :: us, []⟩ (Value.ref (s1.heap.objs.size + 1) :: us ++ []) _ _ E0 (make_guards hgd) (hr.make C us []) (I2.env0.make C us []) (hb _ _ I2.kIn hl) (by rw [List.append_nil]; exact r2) sp) fun r s' hq => ?_))
  match r, hq with
  | .ok (.ret u), hq =>
    obtain ⟨v, H', I3, rv', ev, q3⟩ := I2.after hq
    subst ev
    exact ⟨rv', ⟨V.ref (s1.heap.objs.size + 1), H', I3, rfl, q3⟩⟩
  | .ok .next, hq => exact hq.elim
  | .ok .brk, hq => exact hq.elim
  | .ok .cont, hq => exact hq.elim
  | .error e, hq => exact hq.elim
/-- own lists compared -/
theorem own_py {p : Addr} {ds : List D} {v : V} {L : Lg} {H : Hp} (hr : R X.K L O H) (ho : O p = some (.lst ds)) (hp : (D.lst ds).isPy = true) (i : Is X.K L v (.own p)) : Dp X.K H v (D.lst ds).py := by
  obtain rfl := i.own'
  obtain ⟨xs, h1, h2⟩ := own_lst hr ho
  exact .lst (.inl (.inl h1)) (IsL.dp hr h2 (by simpa [D.isPy] using hp))
theorem wo_neO {p : Addr} {ds : List D} {e : D} (ho : O p = some (.lst ds)) (hu : X.A.units + 64 < cLine) (h1 : (D.lst ds).isPy = true) (h2 : e.isPy = true) (s1 : SeqAt.shaped (D.lst ds).py = true) (s2 : SeqAt.shaped e.py = true) (h : k (.bl (!PyData.eqv (D.lst ds).py e.py)) O) : WO X (compareOp .NotEq) (.own p) e O k := fun vx vy L H ix iy hr Q q =>
  toO (op_neD hu) ⟨(D.lst ds).py, e.py, own_py hr ho h1 ix, iy.dp hr h2, s1, s2, q _ _ _ _ _ h (.refl L) (.bl _) hr⟩
end
end DL
/-! DL, part 3: an own +, +=, exceptions without attributes -/
namespace DL
open PySem PySem.Spec PyProof.Rows L2 ClX
section
variable {X : Cx} {Γ : Sg} {O : Ow} {k : KD} {C : Addr} {j : Nat} {S : SpD}
theorem wo_addOwn {x y : D} {fds gds : List (Str × D)} (F : Km X C "__add__" j S) (hgd : X.A.guards = some []) (hr : Room j X.A) (hsf : PySem.W.selfFirst X.K C = true) (hx : InD O x C fds) (hy : InD O y C gds) (h : S [x, y] O k fun _ _ _ => False) : WO X (binaryOp .Add) x y O k := fun vx vy L H ix iy hR Q q => by
  obtain ⟨a, dx, fs, rfl, ha, _, _⟩ := inD_of hR hx ix
  obtain ⟨b, dy, gs, rfl, hb, _, _⟩ := inD_of hR hy iy
  obtain ⟨f, fd, ps, G, M, bd⟩ := F.ex
  intro pins s σ v u I rx ry
  cases rx
  cases ry
  obtain ⟨mA, J,
      _⟩ := ins_get I.hok ha
  obtain ⟨mB, J', _⟩ := ins_get I.hok hb
  obtain ⟨od, J, _⟩ := J.look
  obtain ⟨od', J',
      _⟩ := J'.look
  obtain ⟨m, hF⟩ := I.fr
  refine PySem.W.binop_K (op := .Add) hF I.ok.mod.kin J J'.type hsf M.at_ M.fn ?_
  refine wpAny_mono (run_gA (us := [.ref a, .ref b]) (vs := [.ref a, .ref b]) G hgd hr I.env0 bd I (.cons rfl (.cons rfl .nil)) (sp_of h (.cons ix (.cons iy .nil)) hR q)) (fun w s' z => ?_) fun _ _ e => e
  obtain ⟨z', H',
      I', rz, qz⟩ := z
  exact cmp_back rz ⟨z', H', I', rz, qz⟩
/-! ### name += e -/
def mro2 (K : PySem.W.Frag) (C : Addr) : Bool := (PySem.W.clsIn K C).any fun cd => cd.mro == [.ref C, .type "object"]
theorem no_iadd {K : PySem.W.Frag} {M : Model} {h : Heap} (X : K.In h) (hm : mro2 K C = true) (hn : PySem.W.findIn K (.ref C) "__iadd__" = some none) : PySem.W.Looks M h (fillsInplaceSlot (.ref C) "add" true) false := by
  obtain ⟨cd, hcd, he⟩ := PySem.W.any_some hm
  have hmro : cd.mro = [.ref C, .type "object"] := beq_iff_eq.mp he
  intro A Q E s k q
  unfold fillsInplaceSlot
  refine wpAny_bind ((PySem.W.looks_clsIn X hcd).andThen (f := fun cd => pure cd.mro) .now A _ E s k ?_)
  rw [hmro, List.anyM_cons]
  refine wpAny_bind (wpAny_bind (PySem.W.looks_findIn X hn A _ E s k ?_))
  refine wpAny_pure ?_
  rw [List.anyM_cons]
  dsimp only
  refine wpAny_bind ?_
  refine wpAny_bind (wpAny_of_eq (show typeLookup (.type "object") (dunderI "add") = pure none from by rw [typeLookup_type, builtinLookup_eq_fast]; kernel_rfl) (wpAny_pure ?_))
  exact wpAny_pure q
theorem ws_augOwn {x : Str} {i : Nat} {e : Expr} {pos pos' : Pos} {De : DE} {dx : D} {fds : List (Str × D)} (F : Km X C "__add__" j S) (hgd : X.A.guards = some []) (hr : Room j X.A) (hsf : PySem.W.selfFirst X.K C = true) (hm : mro2 X.K C = true) (hni : PySem.W.findIn X.K (.ref C) "__iadd__" = some none)
    (hv : Vs X x i) (hi : Γ[i]? = some (some dx)) (hx : ∀ O1, InD O1 dx C fds) (h : WE X e Γ O fun y O1 => (∃ gds, InD O1 y C gds) ∧ S [dx, y] O1 (fun z O2 => De.nx (Γ.set i (some z)) O2) fun _ _ _ => False) : WS X (.AugAssign (.Name x pos') .Add e pos) Γ O De := fun σ L H hs hR E q => by
  obtain ⟨f, fd, ps, G, M, bd⟩ := F.ex
  obtain ⟨vx, ex, ix⟩ := hs.at_ i _ hi
  let ti : TIp := fun vx vy H1 Q => ∃ (L1 : Lg) (y : D) (O1 : Ow) (k : KD) (gds : List (Str × D)), Is X.K L1 vx dx ∧ Is X.K L1 vy y ∧ R X.K L1 O1 H1 ∧ InD O1 y C gds ∧ S [dx, y] O1 k (fun _ _ _ => False) ∧ Fol X.K L1 k Q
  have ho : PIp X .Add ti := by
    intro pins s σ H x y v u Q I rx ry ⟨L1, dy, O1, k, gds, i1, i2, r1, hy, hS, hq⟩
    obtain ⟨a, dx2, fs, rfl, ha, _, _⟩ := inD_of r1 (hx O1) i1
    obtain ⟨b, dy2, gs, rfl, hb, _, _⟩ := inD_of r1 hy i2
    cases rx
    cases ry
    obtain ⟨mA, J,
        _⟩ := ins_get I.hok ha
    obtain ⟨mB, J', _⟩ := ins_get I.hok hb
    obtain ⟨od, J, _⟩ := J.look
    obtain ⟨od', J',
        _⟩ := J'.look
    have KX := I.kIn
    obtain ⟨cd, hcd, hm1⟩ := PySem.W.any_some hsf
    obtain ⟨rest, hm2⟩ : ∃ rest, cd.mro = .ref C :: rest := by
      cases z : cd.mro with
      | nil => rw [z] at hm1; cases hm1
      | cons w r => rw [z] at hm1; exact ⟨r, by rw [List.head?_cons] at hm1; cases (beq_iff_eq.mp hm1); rfl⟩
    have main : wpAny (model X.prog X.w) X.A (call (.ref f) [.ref a, .ref b]) (PySem.W.CmpBack (EP X pins σ Q)) X.xe s := by
      refine wpAny_mono (run_gA (us := [.ref a, .ref b]) (vs := [.ref a, .ref b]) G hgd hr I.env0 bd I (.cons rfl (.cons rfl .nil)) (sp_of hS (.cons i1 (.cons i2 .nil)) r1 hq) (X := X) (H := H) (σ := σ) (pins := pins) (Q := Q)) (fun w s' z => ?_) fun _ _ e => e
      obtain ⟨z', H',
          I', rz, qz⟩ := z
      exact cmp_back rz ⟨z', H', I', rz, qz⟩
    unfold inplaceOp
    refine wpAny_holding (wpAny_bind (J.type.here ?_))
    refine wpAny_bind ((no_iadd KX hm hni).here ?_)
    refine wpAny_bind (m := binaryOp1 Operator.Add.info.snd (.ref a) (.ref b)) ?_
    unfold binaryOp1
    refine wpAny_bind (J.type.here (wpAny_bind (J'.type.here (wpAny_bind ((PySem.W.fills_K (nm := "add") KX hcd hm2 M.at_).here ?_)))))
    simp only [beq_self_eq_true,
        if_true]
    refine wpAny_bind (wpAny_pure
        ?_)
    simp only [Bool.and_false,
        Bool.false_eq_true, if_false, Bool.false_and]
    refine wpAny_bind (wpAny_pure
        ?_)
    simp only [Bool.false_eq_true,
        if_false]
    refine wpAny_bind (m := tryMethod (.ref a) _ (.ref b)) ?_
    unfold tryMethod
    refine wpAny_bind (PySem.W.special_fn KX J M.at_ (beq_iff_eq.mp M.fn) (wpAny_mono main (fun v s' z => ?_) fun _ _ e => e))
    cases v <;> first | exact z.elim | exact wpAny_pure (wpAny_pure (wpAny_pure z))
  refine toS (ps_aug hv.nd hv.hN hv.hl (pu e) ho hv.hf) ?_
  refine ⟨vx, ex, ?_⟩
  refine h σ L H hs hR _ fun vy y O1 L1 H1 h1 e1 i1 r1 => ?_
  obtain ⟨⟨gds, hy⟩, hS⟩ := h1
  exact ⟨L1, y, O1, _, gds, ix.mono e1, i1, r1, hy, hS, fun v z O2 L2 H2 hk le i2 r2 => q.nx _ _ _ _ _ hk (e1.trans le) ((hs.mono (e1.trans le)).set i2 i) r2⟩
end
/-! ### exceptions without attributes -/
abbrev KG0 := Addr → Sg → Ow → Prop
structure Tx0 (X : Cx) (L0 : Lg) (kg : KG0) : Prop where
  ex : ∃ W : WX, Takes X W ∧ ∀ (C : Addr) (Γ : Sg) (O : Ow) (σ : L2.St) (L : Lg) (H : Hp), kg C Γ O → L0.le L → Sl X.K L σ Γ → R X.K L O H → W (.ref C) none σ H
/-- the exception class x at C, without an __init__ of its own -/
structure Ke (X : Cx) (x : Str) (C : Addr) : Prop where
  ex : ∃ (bmB : List Value) (B newId initId : String), ExcBaseFacts B newId initId bmB ∧ PySem.W.excIn X.K C bmB newId = true
  kp : PySem.W.keepIn X.K (.ref C) = true
  exC : PySem.W.subIn X.K (.ref C) (.type "BaseException") = some true
  tyC : PySem.W.typeIn X.K (.ref C) = some (.type "type")
  mg : X.mg x = some (.ref C)
  gl : Gl X x
  db : (x == ("__debug__" : Str)) = false
section
variable {X : Cx} {L0 : Lg} {kg : KG0} {Γ : Sg} {O : Ow} {k : KD} {De : DE} {C : Addr} {j : Nat}
theorem xs_raise0 {x : Str} {p cpos pos : Pos} (hc : X.calm = true) (tx : Tx0 X L0 kg) (F : Ke X x C) (h : kg C Γ O) : WSx X L0 (.Raise (some (.Call (.Name x p) [] [] cpos)) none pos) Γ O De := fun σ L H l0 hs hR E q => by
  obtain ⟨W, tk, tw⟩ := tx.ex
  obtain ⟨bmB, B, newId, initId, F1, q1⟩ := F.ex
  have mk : PMk X (.Call (.Name x p) [] [] cpos) (fun _ H Q => Q (.ref C) none H) := by
    intro pins s σ H Q I h
    refine wpAny_Call_Name_kw (ld_glob I F.gl F.mg ?_ F.db)
    refine PySem.W.callWith_K0 (first := []) I.kIn F.kp ?_
    show wpAny _ _ (call (.ref C) []) _ _ _
    obtain ⟨bm, N, nm, qn, bs, hdct, sn, sub, ab, col, dd, k0, k1, k2, k3, k5, mN, hC, hN, hni, T⟩ := exc_obj I.kIn q1
    obtain ⟨hp, g,
        d, tk, os⟩ := s
    exact wpAny_call_exc_subT F1 T hC hN hni (fun h' e hm => mk_of I hm (raises_own F.exC F.tyC) h (I.hok.gone hm.new)) (Nat.zero_le _)
  refine toS (ps_raise hc tk mk) ?_
  exact tw C Γ O σ L H h l0 hs hR
/-- promises of what raises so -/
abbrev SpD0 := List D → Ow → KD → (Addr → Ow → Prop) → Prop
def spOf0 (K : PySem.W.Frag) (S : SpD0) : Sp := fun vs H Q E => ∃ (ds : List D) (L : Lg) (O : Ow) (k : KD) (kx : Addr → Ow → Prop), IsL K L vs ds ∧ R K L O H ∧ S ds O k kx ∧ Fol K L k Q ∧ ∀ C O' L' H', kx C O' → L.le L' → R K L' O' H' → E (.ref C) none H'
end
section
variable {base : Heap} {mg : Str → Option Value} {K : PySem.W.Frag} {w : World} {P : Program} {C : Addr}
theorem fn_bodyX0 {x qual : Str} {st : Stmt} {f : Addr} {fd : FuncData} {N ps : List Str} {j : Nat} {S : SpD0} (F : FunX K x qual st f fd) (Sc : FnScope N ps (defScope st)) (len : ∀ ds O k kx, S ds O k kx → ds.length = ps.length)
    (h : ∀ (cdv : Value) (A : Around) (outer : List Env) (s : Shared) (H : Hp) (E : XK), A.guards = some [] → Room j (A.deeper (envOfC qual (defScope st) s.heap.objs.size f cdv)) → ∀ L0 ds O k kx, S ds O k kx →
      Tx0 (Bx P w K mg base N qual st f cdv A outer s H E) L0 (fun C _ O' => kx C O') →
      WSsx (Bx P w K mg base N qual st f cdv A outer s H E) L0 (defBody st) (gst N.length ds) O { nx := fun _ O' => Ret k .non O', rt := Ret k }) : FnG P w K mg base (L2.CX P w) (j + 1) f fd ps (spOf0 K S) := by
  refine FnG.body F Sc (fun vs H Q E ⟨ds, L, O, k, kx, hi, _, hs, _⟩ => hi.length.trans (len ds O k kx hs)) fun cdv A outer s H vs Q E hg hr hsp => ?_
  obtain ⟨ds, L, O, k, kx, hi, hR, hS, hk, hx⟩ := hsp
  have tx : Tx0 (Bx P w K mg base N qual st f cdv A outer s H E) L (fun C _ O' => kx C O') :=
    ⟨⟨fun cls d _ H => E cls d H, takes_of rfl rfl rfl rfl, fun C Γ O' σ L' H' a le _ r => hx C O' L' H' a le r⟩⟩
  have z := h cdv A outer s H E hg hr L ds O k kx hS tx (start N vs) L H (.refl L) (sl_start hi) hR { nx := fun _ H' => Q .non H', rt := Q }
    ⟨fun Γ' O' σ' L' H' a le _ r => fol_ret hk .non .non O' L' H' a le .non r, fol_ret hk, fun _ _ _ _ _ a => a.elim, fun _ _ _ _ _ a => a.elim⟩
  exact fun pins s' I => z pins s' I
/-- a method that may raise so -/
structure Pk0 (P : Program) (w : World) (K : PySem.W.Frag) (mg : Str → Option Value) (base : Heap) (C : Addr) (m : Str) (j : Nat) (S : SpD0) : Prop where
  ex : ∃ (f : Addr) (fd : FuncData) (ps : List Str), FnG P w K mg base (L2.CX P w) j f fd ps (spOf0 K S) ∧ Meth K C m f ∧ Binds K fd ps []
theorem Pk0.of {C : Addr} {m qual : Str} {st : Stmt} {N ps : List Str} {j : Nat} {S : SpD0} (T : Dm K C m qual st ps) (Sc : FnScope N ps (defScope st)) (len : ∀ ds O k kx, S ds O k kx → ds.length = ps.length)
    (h : ∀ (f : Addr) (cdv : Value) (A : Around) (outer : List Env) (s : Shared) (H : Hp) (E : XK), A.guards = some [] → Room j (A.deeper (envOfC qual (defScope st) s.heap.objs.size f cdv)) → ∀ L0 ds O k kx, S ds O k kx →
      Tx0 (Bx P w K mg base N qual st f cdv A outer s H E) L0 (fun C _ O' => kx C O') →
      WSsx (Bx P w K mg base N qual st f cdv A outer s H E) L0 (defBody st) (gst N.length ds) O { nx := fun _ O' => Ret k .non O', rt := Ret k }) : Pk0 P w K mg base C m (j + 1) S := by
  obtain ⟨f, fd, hm, F, hb⟩ := T.ex
  exact ⟨⟨f, fd, ps, fn_bodyX0 F Sc len (h f), hm, hb⟩⟩
structure Km0 (X : Cx) (C : Addr) (m : Str) (j : Nat) (S : SpD0) : Prop where
  ex : ∃ (f : Addr) (fd : FuncData) (ps : List Str), FnG X.prog X.w X.K X.mg X.base (L2.CX X.prog X.w) j f fd ps (spOf0 X.K S) ∧ Meth X.K C m f ∧ Binds X.K fd ps []
theorem Pk0.km {C : Addr} {m : Str} {j : Nat} {S : SpD0} (F : Pk0 P w K mg base C m j S) {X : Cx} (e1 : X.prog = P) (e2 : X.w = w) (e3 : X.K = K) (e4 : X.mg = mg) (e5 : X.base = base) : Km0 X C m j S := by
  subst e1 e2 e3 e4 e5
  exact ⟨F.ex⟩
end
section
variable {X : Cx} {L0 : Lg} {kg : KG0} {Γ : Sg} {O : Ow} {k : KD} {De : DE} {C : Addr} {j : Nat} {S : SpD0}
/-- a + b, a and b instances of the class, which may raise -/
theorem ex_add0 {a b : Expr} {pos : Pos} (F : Km0 X C "__add__" j S) (tx : Tx0 X L0 kg) (hgd : X.A.guards = some []) (hr : Room j X.A) (hsf : PySem.W.selfFirst X.K C = true)
    (h : WE X a Γ O fun x O1 => WE X b Γ O1 fun y O2 => (∃ fds gds, InD O2 x C fds ∧ InD O2 y C gds) ∧ S [x, y] O2 k fun Ce O3 => ∃ O4, DL.Sub O4 O3 ∧ kg Ce Γ O4) : WEx X L0 (.BinOp a .Add b pos) Γ O k := fun σ L H l0 hs hR Q q pins s I => by
  obtain ⟨W, tk, tw⟩ := tx.ex
  obtain ⟨f, fd, ps, G, M, bd⟩ := F.ex
  refine wpAny_BinOp (binT (pu a) (pu b) I (R := fun vx vy H2 => ∃ (L2 : Lg) (x y : D) (O2 : Ow), L.le L2 ∧ Is X.K L2 vx x ∧ Is X.K L2 vy y ∧ R X.K L2 O2 H2 ∧ (∃ fds gds, InD O2 x C fds ∧ InD O2 y C gds) ∧ S [x, y] O2 k fun Ce O3 => ∃ O4, DL.Sub O4 O3 ∧ kg Ce Γ O4)
    (h σ L H hs hR _ fun vx x O1 L1 H1 h1 e1 i1 r1 => h1 σ L1 H1 (hs.mono e1) r1 _ fun vy y O2 L2 H2 h2 e2 i2 r2 => ⟨L2, x, y, O2, e1.trans e2, i1.mono e2, i2, r2, h2.1, h2.2⟩) fun v u s2 vx vy H2 I2 rx ry hv => ?_)
  obtain ⟨L2, x, y, O2, le, i1, i2, r2, ⟨fds, gds, hx, hy⟩, hS⟩ := hv
  obtain ⟨p1, dx, fs, rfl, ha, _, _⟩ := inD_of r2 hx i1
  obtain ⟨p2, dy, gs, rfl, hb, _, _⟩ := inD_of r2 hy i2
  cases rx
  cases ry
  obtain ⟨mA, J, _⟩ := ins_get I2.hok ha
  obtain ⟨mB, J', _⟩ := ins_get I2.hok hb
  obtain ⟨od, J, _⟩ := J.look
  obtain ⟨od', J',
      _⟩ := J'.look
  obtain ⟨m, hF⟩ := I2.fr
  refine PySem.W.binop_K (op := .Add) hF I2.ok.mod.kin J J'.type hsf M.at_ M.fn ?_
  have sp : spOf0 X.K S [V.ref p1, V.ref p2] H2 Q (fun cls d H' => W cls d σ H') :=
    ⟨_, L2, O2, k, _, .cons i1 (.cons i2 .nil), r2, hS, q.le le, fun Ce O3 L3 H3 ⟨O4, sub, hk⟩ le3 r3 => tw Ce Γ O4 σ L3 H3 hk (l0.trans (le.trans le3)) (hs.mono (le.trans le3)) (r3.sub sub)⟩
  have hl : ([Value.ref p1, Value.ref p2] ++ []).length = ps.length := by
    have z := G.ln _ _ _ _ sp
    rw [List.append_nil]
    exact z
  refine wpAny_call (codeAny_mono (G.go X.A X.stack s2 H2 ⟨[.ref p1, .ref p2], []⟩ ([.ref p1, .ref p2] ++ []) _ Q _ hgd hr I2.env0 (bd s2 [.ref p1, .ref p2] I2.kIn hl) (by rw [List.append_nil]; exact .cons rfl (.cons rfl .nil)) sp) fun r s' hq => ?_)
  match r, hq with
  | .ok (.ret u), hq =>
    obtain ⟨z', H', I', rz, qz⟩ := I2.after hq
    exact cmp_back rz ⟨z', H', I', rz, qz⟩
  | .ok .next, hq => exact hq.elim
  | .ok .brk, hq => exact hq.elim
  | .ok .cont, hq => exact hq.elim
  | .error e, hq => exact tk _ _ (XE.of_call I2 (fun _ _ _ h => h) hq)
theorem ex_fld {e : Expr} {f : Str} {pos} (hb : attributeBase e f X.env (eval e X.env) = eval e X.env) (h : WEx X L0 e Γ O fun x O1 => ∃ C fds d, InD O1 x C fds ∧ Cls X.K C ∧ NoAttr X.K C f ∧ fds.lookup f = some d ∧ k d O1) : WEx X L0 (.Attribute e f pos) Γ O k := fun σ L H l0 hs hr Q q => by
  refine toE (pe_fld (pu e) hb) ?_
  refine h σ L H l0 hs hr _ fun x dx O1 L1 H1 h1 e1 i1 r1 => ?_
  obtain ⟨C, fds, d, hi, hc, hn, hl, h2⟩ := h1
  obtain ⟨a, dx, fs, rfl, s1, s2, s3⟩ := inD_of r1 hi i1
  obtain ⟨v, g1, g2⟩ := (lookup_is s2 s3).1 d hl
  exact ⟨a, C, dx, fs, v, rfl, s1, hc, hn, g1, q _ _ _ _ _ h2 e1 g2 r1⟩
/-- try: body / except x as n: suite, what is caught has no attributes -/
theorem ws_tryAs0 {x n : Str} {c : Value} {i : Nat} {body suite : List Stmt} {b₀ : Stmt} {np pos pos' : Pos} (kg : KG0) (hs : X.stack = X.env :: X.outer) (hf : X.env.frame = some X.env.locals) (hN : X.N.Nodup) (hi : X.N[i]? = some n) (hln : X.env.kindOf n = some .local) (hc : Names X x c)
    (hb : ∀ (L0 : Lg) (pn : List (Addr × Obj)) (xe : Value → Shared → Prop), PassesOwn (model X.prog X.w) X.A X.env xe → Tx0 (X.tr pn xe) L0 kg → WSsx (X.tr pn xe) L0 body Γ O De)
    (hh : ∀ C Γ' O', kg C Γ' O' → PySem.W.exmOne X.K (.ref C) c = some true ∧ ∀ (a : Addr) (oe : Obj) (pn : List (Addr × Obj)), Zc (.ref C) none oe → (∃ vs, oe.data = .fields vs) →
      WSs (X.suite a ((a, oe) :: pn)) (b₀ :: suite) (Γ'.set i (some (.own a))) O' (De.gone i)) :
    WS X (.Try body [.ExceptHandler (some (.Name x np)) (some n) (b₀ :: suite) pos'] [] [] pos) Γ O De := fun σ L H hsl hr E q => by
  let tb : WX → TS := fun W D σ H => ∀ (pn : List (Addr × Obj)) (xe : Value → Shared → Prop), Takes (X.tr pn xe) W → PassesOwn (model X.prog X.w) X.A X.env xe → uSs (X.tr pn xe) body D σ H
  let ts : Addr → Value → Option Addr → TS := fun a cls d D σ H => ∀ (oe : Obj) (pn : List (Addr × Obj)), Zc cls d oe → (∃ vs, oe.data = .fields vs) → uSs (X.suite a ((a, oe) :: pn)) (b₀ :: suite) D σ H
  refine toS (ps_try_as (tb := tb) (ts := ts) (Wout := fun _ _ _ _ => False) hs hf hN hi hln hc (fun u s' ⟨_, _, _, _, _, _, _, _, _, _, _, _, _, _, _, _, w⟩ => w.elim)
    (fun W pn xe tk po => ⟨fun pins s σ H D I h => h pn xe tk po pins s I⟩) (fun a oe cls d pn hz hv => ⟨fun pins s σ H D I h => h oe pn hz hv pins s I⟩)) ?_
  intro pn xe tk po
  have tx : Tx0 (X.tr pn xe) L kg := ⟨⟨_, tk, fun C Γ' O' σ' L' H' hk le hsl' r => by
    obtain ⟨z1, z2⟩ := hh C Γ' O' hk
    refine ⟨true, z1, fun _ a ha oe pn' hz hv => ?_, fun z => by cases z⟩
    exact z2 a oe pn' hz hv (σ'.set i (some (.ref a))) L' H' (hsl'.set (.own a) i) r _ (fol_gone (q.le le) i)⟩⟩
  exact hb L pn xe po tx σ L H (.refl L) hsl hr E q
/-- isinstance(e, P), P a class -/
theorem wc_isiX0 {a C P : Addr} {oe : Obj} {pn : List (Addr × Obj)} {b : Bool} (T : ExcC X.K C) (hz : Zc (.ref C) none oe) (hv : ∃ vs, oe.data = .fields vs) (hk : PySem.W.kitOne X.K (.ref C) (.ref P) = some b)
    (h : k (.bl b) O) : DL.WC (X.suite a ((a, oe) :: pn)) (.builtin "isinstance") [.own a, .own P] O k := fun vs L H is hr Q q => by
  obtain ⟨v, u, rfl, i1, i2⟩ := is.two'
  obtain rfl := i1.own'
  obtain rfl := i2.own'
  have fin : Q (.bl b) H := q _ _ _ _ _ h (.refl L) (.bl _) hr
  intro pins s σ us I rx
  cases rx with
  | cons r1 t1 =>
    cases t1 with
    | cons r2 t2 =>
      cases t2
      cases r1
      cases r2
      obtain ⟨ha, _⟩ := I.pin (a, oe) (List.mem_append_left _ List.mem_cons_self)
      obtain ⟨ws, hws⟩ := hv
      have J : PySem.W.InstAt s.heap a oe C none := ⟨ha, hz.1, by unfold PySem.W.notCls; rw [hws] <;> rfl, by rw [hz.2]; exact trivial⟩
      have hcl : (PySem.W.clsIn X.K C).isSome = true := by
        obtain ⟨cd, hc, _⟩ := PySem.W.any_some T.hd
        rw [hc]; rfl
      exact PySem.W.kia_one (PySem.W.kitx_exc hcl T.hg T.hk T.hs T.ha T.hn T.ht T.hm) I.kIn J hk (fun z => nomatch z) fun tk => ⟨.bl b, H, I.kept (t' := tk) fun _ _ z => z, rfl, fin⟩
end
end DL
/-! DL, part 4: tuple + tuple of any length, a list turned round -/
namespace DL
open PySem PySem.Spec PyProof.Rows L2 ClX
section
variable {X : Cx} {Γ : Sg} {O : Ow} {k : KD} {De : DE}
theorem wo_catA {xs ys : List D} (hz : xs.length + ys.length ≤ sizeLine) (h : k (.tup (xs ++ ys)) O) : WO X (binaryOp .Add) (.tup xs) (.tup ys) O k := fun vx vy L H ix iy hr Q q => by
  obtain ⟨a, vs, rfl, s, t⟩ := ix.tup'
  obtain ⟨b, us, rfl, s', t'⟩ := iy.tup'
  refine toO op_catA ⟨a, b, vs, us, rfl, rfl, hr.st s, hr.st s', by rw [t.length, t'.length]; exact hz, fun z => ?_, fun _ z => ?_, fun z1 z2 p hp => ?_⟩
  · have e : xs = [] := List.length_eq_zero_iff.mp (by rw [← t.length, z]; rfl)
    subst e
    exact q _ _ _ _ _ h (.refl L) iy hr
  · have e : ys = [] := List.length_eq_zero_iff.mp (by rw [← t'.length, z]; rfl)
    subst e
    rw [List.append_nil] at h
    exact q _ _ _ _ _ h (.refl L) ix hr
  · obtain ⟨L', le, i, r⟩ := hr.newT hp (t.append t')
    exact q _ _ _ _ _ h le i r
theorem isL_rev {K : PySem.W.Frag} {L : Lg} : ∀ {vs : List V} {ds : List D}, IsL K L vs ds → IsL K L vs.reverse ds.reverse
  | _, _, .nil => .nil
  | _, _, .cons a t => by
    rw [List.reverse_cons,
        List.reverse_cons]
    exact (isL_rev t).append (.cons a .nil)
theorem we_revL {e : Expr} {kk p1 p2 p3 pos} (h : WE X e Γ O fun d O1 => ∃ ds, SqD O1 d ds ∧ k (.lst ds.reverse) O1) : WE X (.Subscript e (.Slice none none (some (.UnaryOp .USub (.Constant (.int 1) kk p1) p2)) p3) pos) Γ O k := fun σ L H hs hr Q q => by
  refine toE (pe_revL (pu e)) ?_
  refine h σ L H hs hr _ fun vx d O1 L1 H1 h1 e1 i1 r1 => ?_
  obtain ⟨ds, hd, hk⟩ := h1
  obtain ⟨a, vs, rfl, s, t⟩ := sqD_of r1 hd i1
  refine ⟨a, vs, rfl, s, fun p hp => ?_⟩
  obtain ⟨L', le, i, r⟩ := r1.newL hp (isL_rev t)
  exact q _ _ _ _ _ hk (e1.trans le) i r
end
/-- an exception class without an __init__ of its own, known by its name -/
structure Pe0 (K : PySem.W.Frag) (mg : Str → Option Value) (x : Str) (C : Addr) : Prop where
  ex : ∃ (bmB : List Value) (B newId initId : String), ExcBaseFacts B newId initId bmB ∧ PySem.W.excIn K C bmB newId = true
  kp : PySem.W.keepIn K (.ref
      C) = true
  exC : PySem.W.subIn K (.ref C) (.type
      "BaseException") = some true
  tyC : PySem.W.typeIn K (.ref
      C) = some (.type "type")
  mg : mg x = some (.ref C)
theorem Pe0.ke {K : PySem.W.Frag} {mg : Str → Option Value} {x : Str} {C : Addr} (F : Pe0 K mg x C) {X : Cx} (e3 : X.K = K) (e4 : X.mg = mg) (gl : Gl X x) (db : (x == ("__debug__" : Str)) = false) : Ke X x C := by
  subst e3 e4
  exact ⟨F.ex, F.kp, F.exC, F.tyC, F.mg, gl, db⟩
end DL
/-! DL, part 5: a try of many clauses that bear a name -/
namespace DL
open PySem PySem.Spec PyProof.Rows L2 ClX
/-- the state in front of the clauses, an exception at a in flight -/
def AtCl (X : Cx) (pins : List (Addr × Obj)) (σ : L2.St) (H : Hp) (s : Shared) (a : Addr) (cls : Value) (d : Option Addr) : Prop :=
  ∃ (B : Heap) (sI : Shared), Inv X pins σ H sI ∧ (∀ b o, sI.heap.get? b = some o → b ∉ frs X.stack → B.get? b = some o) ∧ sI.heap.UpToSlots s.heap ∧
    HandSPX.FlyingZ B (X.env :: X.outer) a (Zc cls d) s.heap ∧ H a = none ∧ s.os = sI.os ∧ AllBare s.gens
/-- the clauses serve what W tells of -/
def Cl (X : Cx) (hs : List ExceptHandler) (D : Ends) (W : WX) : Prop :=
  ∀ pins σ H s a cls d, AtCl X pins σ H s a cls d → X.Ok → W cls d σ H → wpAny (model X.prog X.w) X.A (handleBy (.ref a) X.env hs) (SP X pins D) X.xe s
section
variable {X : Cx} {x n : Str} {c : Value} {i : Nat} {body suite : List Stmt} {b₀ : Stmt} {np pos pos' : Pos} {ts : Addr → Value → Option Addr → TS} {hs : List ExceptHandler} {D : Ends} {W : WX}
theorem cl_nil : Cl X hs D (fun _ _ _ _ => False) := fun _ _ _ _ _ _ _ _ _ h => h.elim
theorem AtCl.apart {pins : List (Addr × Obj)} {σ : L2.St} {H : Hp} {s : Shared} {a : Addr} {cls : Value} {d : Option Addr} (h : AtCl X pins σ H s a cls d) (hst : X.stack = X.env :: X.outer) (hf : X.env.frame = some X.env.locals) :
    Inv X pins σ H s ∧ ∃ oe, s.heap.get? a = some oe ∧ Zc cls d oe ∧ (∃ vs, oe.data = .fields vs) ∧ a ≠ X.env.locals ∧ a ∉ X.fs := by
  obtain ⟨B, sI, I, nb, up, fl, na, os, ag⟩ := h
  obtain ⟨oe, vs, he,
      hz, hd⟩ := fl.there
  have out : ∀ e ∈ X.env :: X.outer, e.frame ≠ some a := fun e he' q => by
    obtain ⟨_, o', e', hnf⟩ := fl.2.2.1.mem (List.mem_filterMap.mpr ⟨e, he', q⟩)
    rw [he] at e'
    cases e'
    exact hnf _ hd
  exact ⟨I.landed nb fl.1 up os ag, oe, he, hz, ⟨vs, hd⟩, fun z => out X.env List.mem_cons_self (by rw [hf, z]), fun hm => by
    obtain ⟨e, he', q⟩ := List.mem_filterMap.mp hm
    exact out e (List.mem_cons_of_mem _ he') q⟩
theorem cl_cons (hst : X.stack = X.env :: X.outer) (hf : X.env.frame = some X.env.locals) (hN : X.N.Nodup) (hi : X.N[i]? = some n) (hln : X.env.kindOf n = some .local) (hc : Names X x c)
    (hsu : ∀ (a : Addr) (oe : Obj) (cls : Value) (d : Option Addr) (pn : List (Addr × Obj)), Zc cls d oe → (∃ vs, oe.data = .fields vs) → PSs (X.suite a ((a, oe) :: pn)) (b₀ :: suite) (ts a cls d)) (hr : Cl X hs D W) :
    Cl X (.ExceptHandler (some (.Name x np)) (some n) (b₀ :: suite) pos' :: hs) D (wAs X.K c i ts W D) := fun pins σ H s a cls d hat ok hw => by
  obtain ⟨b, hb, hy, hn⟩ := hw
  obtain ⟨I, oe, he, hz, hv, nL, nF⟩ := hat.apart hst hf
  have na : H a = none := by
    obtain ⟨_, _, _, _, _, _, na, _⟩ := hat
    exact na
  obtain ⟨vs, hd⟩ := id hv
  have S := I.suite he hd na nL nF
  refine wpAny_handleBy_cons (codeAny_handlers_test ?_) (fun q => by cases q)
  have lt : PySem.W.Looks (model X.prog X.w) s.heap (typeOf (.ref a)) cls := fun A Q E t k q => wpAny_typeOf_ref (k _ _ he) (by rw [hz.1]; exact q)
  have lm := PySem.W.exm_one (M := model X.prog X.w) I.kIn lt hb
  have nm : ∀ {Q E : Value → Shared → Prop}, Q c s → wpAny (model X.prog X.w) (X.A.mark (some (.ref a))) (eval (.Name x np) X.env) Q E s := fun {Q E} q => by
    obtain ⟨g1, g2, g3 | ⟨g3, g4, g5⟩⟩ := hc
    · exact ld_glob (X := X.suite a ((a, oe) :: (X.pn ++ pins))) S g1 g3 q g2
    · exact ld_blt (X := X.suite a ((a, oe) :: (X.pn ++ pins))) S g1 g3 g4 q g5 g2
  refine nm (lm.here ?_)
  cases b with
  | false => exact hr pins σ H s a cls d hat ok (hn rfl)
  | true =>
    obtain ⟨B, sI, I0, nb, up, fl, _, os, ag⟩ := hat
    refine codeAny_handlers_suite_as (HandSPX.lands_againZ fl fun h4 fl4 up4 => ?_)
    have hat4 : AtCl X pins σ H { s with heap := h4 } a cls d := ⟨B, sI, I0, nb, up.trans up4, fl4, na, os, ag⟩
    obtain ⟨I4, oe4, he4, hz4, ⟨vs4, hd4⟩, nL4, nF4⟩ := hat4.apart hst hf
    refine store_ok (X := X.suite a ((a, oe4) :: (X.pn ++ pins))) (v := .ref a) (I4.suite he4 hd4 na nL4 nF4) hN hi (.inl hln) rfl (fun s5 S5 => ?_) (.inr hln)
    refine wpAny_mono ((hsu a oe4 cls d (X.pn ++ pins) hz4 ⟨vs4, hd4⟩).run [] s5 _ H _ S5 (hy rfl a na)) (fun f s6 q => ?_) fun _ _ z => z.elim
    have bye : ∀ {σ6 : L2.St} {H6 : Hp} {Q : Shared → Prop}, Inv (X.suite a ((a, oe4) :: (X.pn ++ pins))) [] σ6 H6 s6 → (∀ s7, Inv X pins (σ6.set i none) H6 s7 → Q s7) →
        wpAny (model X.prog X.w) X.A (do bindName X.env n .none; unbindBehindTheSuite X.env n pos') (fun _ s7 => Q s7) X.xe s6 := fun {σ6 H6 Q} S6 z => gone_ok (S6.unsuite ok) hN hi hln z
    cases f with
    | ret u =>
      obtain ⟨v, σ6, H6, S6, r6, q6⟩ := q
      exact bye S6 fun _ J => ⟨_, _, _, J, r6, q6⟩
    | next =>
      obtain ⟨σ6, H6, S6, q6⟩ := q
      exact bye S6 fun _ J => ⟨_, _, J, q6⟩
    | brk =>
      obtain ⟨σ6, H6, S6, q6⟩ := q
      exact bye S6 fun _ J => ⟨_, _, J, q6⟩
    | cont =>
      obtain ⟨σ6, H6, S6, q6⟩ := q
      exact bye S6 fun _ J => ⟨_, _, J, q6⟩
/-- try: body / except clauses: they serve all that the body lets out -/
theorem ps_try_cl {tb : WX → TS} {Wd : Ends → WX} {h₀ : ExceptHandler} (hst : X.stack = X.env :: X.outer) (hf : X.env.frame = some X.env.locals) (hcl : ∀ D, Cl X (h₀ :: hs) D (Wd D))
    (hb : ∀ (W : WX) (pn : List (Addr × Obj)) (xe : Value → Shared → Prop), Takes (X.tr pn xe) W → PassesOwn (model X.prog X.w) X.A X.env xe → PSs (X.tr pn xe) body (tb W)) :
    PS X (.Try body (h₀ :: hs) [] [] pos) (fun D σ H => tb (Wd D) D σ H) := ⟨fun pins s σ H D I h => by
  have ok := I.ok
  refine wpAny_Try_except (wpAny_mono ((hb (Wd D) (X.pn ++ pins) (fun e s1 => wpAny (model X.prog X.w) X.A (noteFrame e X.env) (fun _ s2 => wpAny (model X.prog X.w) X.A (setFlight e none) (fun _ s3 =>
    wpAny (model X.prog X.w) X.A (handleBy e X.env (h₀ :: hs)) (SP X pins D) X.xe s3) X.xe s2) X.xe s1) (fun u s' z => ?_) PassesOwn.looking).run [] s σ H D (I.toTry _) h) (fun f s1 q => ?_) fun _ _ z => z)
  · obtain ⟨a, B, sI, _, σ', H', cls, d, rfl, J, nb, up, sky, na, os, ag, w⟩ := z
    refine Sky.land Zc.steady (by rw [ok.frames, hst]) hf (by rw [← hst]; exact sky) fun h3 fl up3 => ?_
    exact hcl D pins σ' H' _ a cls d ⟨B, sI, J.ofTry ok, nb, up.trans up3, fl, na, os, ag⟩ ok w
  · cases f with
    | ret v =>
      obtain ⟨y, σ', H', J, r, z⟩ := q
      exact ⟨y, σ', H', J.ofTry ok, r, z⟩
    | next =>
      obtain ⟨σ', H', J, z⟩ := q
      exact wpAny_execs_nil ⟨σ', H', J.ofTry ok, z⟩
    | brk =>
      obtain ⟨σ', H', J, z⟩ := q
      exact ⟨σ', H', J.ofTry ok, z⟩
    | cont =>
      obtain ⟨σ', H', J, z⟩ := q
      exact ⟨σ', H', J.ofTry ok, z⟩⟩
end
section
variable {X : Cx} {Γ : Sg} {O : Ow} {De : DE}
/-- try: body / except x as n: .. / except y as m: .., where every exception bears fields -/
theorem ws_tryAs2 {x y n m : Str} {c e : Value} {i j : Nat} {body s1 s2 : List Stmt} {b1 b2 : Stmt} {np1 np2 pos1 pos2 pos : Pos} (kg : KG) (hs : X.stack = X.env :: X.outer) (hf : X.env.frame = some X.env.locals) (hN : X.N.Nodup)
    (hi : X.N[i]? = some n) (hln : X.env.kindOf n = some .local) (hj : X.N[j]? = some m) (hlm : X.env.kindOf m = some .local) (hc : Names X x c) (he : Names X y e)
    (hb : ∀ (L0 : Lg) (pn : List (Addr × Obj)) (xe : Value → Shared → Prop), PassesOwn (model X.prog X.w) X.A X.env xe → Tx (X.tr pn xe) L0 kg → WSsx (X.tr pn xe) L0 body Γ O De)
    (hh : ∀ C fds Γ' O', kg C fds Γ' O' →
      (PySem.W.exmOne X.K (.ref C) c = some true ∧ ∀ (a dd : Addr) (oe : Obj) (pn : List (Addr × Obj)), Zc (.ref C) (some dd) oe → (∃ vs, oe.data = .fields vs) → WSs (X.suite a ((a, oe) :: pn)) (b1 :: s1) (Γ'.set i (some (.exc a dd fds))) O' (De.gone i)) ∨
      (PySem.W.exmOne X.K (.ref C) c = some false ∧ PySem.W.exmOne X.K (.ref C) e = some true ∧ ∀ (a dd : Addr) (oe : Obj) (pn : List (Addr × Obj)), Zc (.ref C) (some dd) oe → (∃ vs, oe.data = .fields vs) → WSs (X.suite a ((a, oe) :: pn)) (b2 :: s2) (Γ'.set j (some (.exc a dd fds))) O' (De.gone j))) :
    WS X (.Try body [.ExceptHandler (some (.Name x np1)) (some n) (b1 :: s1) pos1, .ExceptHandler (some (.Name y np2)) (some m) (b2 :: s2) pos2] [] [] pos) Γ O De := fun σ L H hsl hr E q => by
  let tb : WX → TS := fun W D σ H => ∀ (pn : List (Addr × Obj)) (xe : Value → Shared → Prop), Takes (X.tr pn xe) W → PassesOwn (model X.prog X.w) X.A X.env xe → uSs (X.tr pn xe) body D σ H
  let t1 : Addr → Value → Option Addr → TS := fun a cls d D σ H => ∀ (oe : Obj) (pn : List (Addr × Obj)), Zc cls d oe → (∃ vs, oe.data = .fields vs) → uSs (X.suite a ((a, oe) :: pn)) (b1 :: s1) D σ H
  let t2 : Addr → Value → Option Addr → TS := fun a cls d D σ H => ∀ (oe : Obj) (pn : List (Addr × Obj)), Zc cls d oe → (∃ vs, oe.data = .fields vs) → uSs (X.suite a ((a, oe) :: pn)) (b2 :: s2) D σ H
  refine toS (ps_try_cl (tb := tb) (Wd := fun D => wAs X.K c i t1 (wAs X.K e j t2 (fun _ _ _ _ => False) D) D) hs hf
    (fun D => cl_cons hs hf hN hi hln hc (fun a oe cls d pn hz hv => ⟨fun pins s σ H D I h => h oe pn hz hv pins s I⟩)
      (cl_cons hs hf hN hj hlm he (fun a oe cls d pn hz hv => ⟨fun pins s σ H D I h => h oe pn hz hv pins s I⟩) cl_nil))
    (fun W pn xe tk po => ⟨fun pins s σ H D I h => h pn xe tk po pins s I⟩)) ?_
  intro pn xe tk po
  have tx : Tx (X.tr pn xe) L kg := ⟨⟨_, tk, fun C d fs fds Γ' O' σ' L' H' hk le hsl' hd e1 e2 r => by
    obtain ⟨M2, le2, hx, r2⟩ := R.addXd r hd
    rcases hh C fds Γ' O' hk with ⟨z1, z2⟩ | ⟨z1, z0, z2⟩
    · exact ⟨true, z1, fun _ a ha oe pn' hz hv => z2 a d oe pn' hz hv (σ'.set i (some (.ref a))) M2 H' ((hsl'.mono le2).set (.exc hx e1 (e2.mono le2)) i) r2 _ (fol_gone (q.le (le.trans le2)) i), fun z => by cases z⟩
    · exact ⟨false, z1, fun z => (by cases z), fun _ => ⟨true, z0, fun _ a ha oe pn' hz hv => z2 a d oe pn' hz hv (σ'.set j (some (.ref a))) M2 H' ((hsl'.mono le2).set (.exc hx e1 (e2.mono le2)) j) r2 _ (fol_gone (q.le (le.trans le2)) j), fun z => by cases z⟩⟩⟩⟩
  exact hb L pn xe po tx σ L H (.refl L) hsl hr E q
end
end DL
/-! DL, part 6: deals -/
namespace DL
open PySem PySem.Spec PyProof.Rows L2 ClX
section
variable {X : Cx} {Γ : Sg} {O : Ow} {k : KD}
/-- numbers turned round: a list that only the drawing changes -/
theorem we_revN {e : Expr} {kk p1 p2 p3 pos} (h : WE X e Γ O fun d O1 => ∃ xs : List Int, SqD O1 d (xs.map .int) ∧ (∀ x ∈ xs, 0 ≤ x) ∧ xs.length ≤ 100 ∧ k .nums O1) : WE X (.Subscript e (.Slice none none (some (.UnaryOp .USub (.Constant (.int 1) kk p1) p2)) p3) pos) Γ O k := fun σ L H hs hr Q q => by
  refine toE (pe_revL (pu e)) ?_
  refine h σ L H hs hr _ fun vx d O1 L1 H1 h1 e1 i1 r1 => ?_
  obtain ⟨xs, hd, h0, hz, hk⟩ := h1
  obtain ⟨a, vs, rfl, s, t⟩ := sqD_of r1 hd i1
  refine ⟨a, vs, rfl, s, fun p hp => ?_⟩
  have ev : vs = xs.map V.int := isL_int t
  have hb : BkOk .nums (some (.lst vs.reverse)) := ⟨xs.reverse, fun x hx => h0 x (List.mem_reverse.mp hx), by rw [List.length_reverse]; exact hz, by rw [ev, List.map_reverse]⟩
  exact q _ _ _ _ _ hk (e1.trans (Lg.le_bk (r1.free hp).2.2)) (.nums Lg.bk_same) (r1.newBk hp hb)
/-- a deal made -/
theorem we_dealL {es : List Expr} {pos : Pos} (h : WA X es Γ O fun ds O1 => ∃ v : Int, ds = [.nums, .int v] ∧ 0 ≤ v ∧ k .deal O1) : WE X (.List es pos) Γ O k := fun σ L H hs hr Q q => by
  refine toE (pe_lst (pau es)) ?_
  refine h σ L H hs hr _ fun vs ds O1 L1 H1 h1 e1 i1 r1 => ?_
  obtain ⟨v, rfl, h0, hk⟩ := h1
  obtain ⟨x, y, rfl, ix, iy⟩ := i1.two'
  obtain ⟨b, rfl, hb⟩ := ix.nums'
  obtain rfl := iy.int'
  refine ⟨by show 2 ≤ sizeLine; decide,
      fun p hp => ?_⟩
  have hn : L1.bx p = none := (r1.free hp).2.2
  have hk2 : BkOk (.pair b) (some (.lst [.ref b, .int v])) := ⟨v, h0, rfl⟩
  exact q _ _ _ _ _ hk (e1.trans (Lg.le_bk hn)) (.deal Lg.bk_same ((Lg.le_bk hn).bx _ _ hb)) (r1.newBk hp hk2)
end
/-- the drawing, told of the data -/
def sDraw : SpD := fun ds O k _ => ∃ m : Int, ds = [.deal, .int m] ∧ 0 < m ∧ m < 1073741824 ∧ ∀ r : Int, 0 ≤ r → r < m → k (.int r) O
theorem sDraw_i {O : Ow} {k : KD} {kx : KX} {m : Int} (h0 : 0 < m ∧ m < 1073741824) (h : ∀ r : Int, 0 ≤ r → r < m → k (.int r) O) : sDraw [.deal, .int m] O k kx := ⟨m, rfl, h0.1, h0.2, h⟩
/-- .. told of the deal when it lies open, as two owned lists -/
structure Open (O : Ow) (a b : Addr) : Prop where
  ne : a ≠ b
  ex : ∃ (v : Int) (xs : List Int), 0 ≤ v ∧ (∀ x ∈ xs, 0 ≤ x) ∧ xs.length ≤ 100 ∧ O a = some (.lst [.own b, .int v]) ∧ O b = some (.lst (xs.map .int))
section
variable {base : Heap} {mg : Str → Option Value} {K : PySem.W.Frag} {w : World} {P : Program}
theorem R.open {L : Lg} {O : Ow} {H : Hp} {a b : Addr} {v : Int} {xs : List Int} (ne : a ≠ b) (e1 : H a = some (.lst [.ref b, .int v])) (e2 : H b = some (.lst (xs.map .int))) :
    R K ⟨fun c => if c = a ∨ c = b then none else H c, fun _ => none⟩ (put (put (fun _ => none) b (.lst (xs.map .int))) a (.lst [.own b, .int v])) H := by
  refine ⟨fun c o h => ?_, fun _ _ h => (by cases h), fun c od h => ?_⟩
  · have h' : (if c = a ∨ c = b then none else H c) = some o := h
    split at h'
    · cases h'
    · exact h'
  · by_cases ca : c = a
    · subst ca
      rw [put_same] at h
      cases h
      exact ⟨if_pos (.inl rfl), _, e1, .cons (.own b) (.cons (.int v) .nil)⟩
    · rw [put_ne ca] at h
      by_cases cb : c = b
      · subst cb
        rw [put_same] at h
        cases h
        refine ⟨if_pos (.inr rfl), _, e2, ?_⟩
        have : ∀ l : List Int, IsL K ⟨fun c' => if c' = a ∨ c' = c then none else H c', fun _ => none⟩ (l.map .int) (l.map .int) := fun l => by
          induction l with
          | nil => exact .nil
          | cons i l ih => exact .cons (.int i) ih
        exact this xs
      · rw [put_ne cb] at h
        cases h
/-- behind the drawing all else is as it was -/
theorem R.shut {L L' : Lg} {O O' : Ow} {H H' : Hp} {a b : Addr} (r : R K L O H) (ha : L.bx a = some (.pair b)) (hb : L.bx b = some .nums) (le : Lg.le ⟨fun c => if c = a ∨ c = b then none else H c, fun _ => none⟩ L') (r' : R K L' O' H') (op : Open O' a b) : R K L O H' := by
  obtain ⟨ne, v, xs, h0, g0, gz, e1, e2⟩ := op
  obtain ⟨vs, f1, f2⟩ := own_lst r' e1
  obtain ⟨ws, f3, f4⟩ := own_lst r' e2
  have keep : ∀ c o, c ≠ a → c ≠ b → H c = some o → H' c = some o := fun c o na nb h => r'.hp c o (le.hp c o (by
    show (if c = a ∨ c = b then none else H c) = some o
    rw [if_neg (fun z => z.elim na nb)]
    exact h))
  obtain ⟨a1, a2, _⟩ := r.bx a _ ha
  obtain ⟨b1, b2, _⟩ := r.bx b _ hb
  obtain ⟨x, y, rfl, ix, iy⟩ := f2.two'
  obtain rfl := ix.own'
  obtain rfl := iy.int'
  obtain rfl := isL_int f4
  refine ⟨fun c o h => keep c o (fun q => by rw [q, a1] at h; cases h) (fun q => by rw [q, b1] at h; cases h) (r.hp c o h), fun c k h => ?_, fun c od h => ?_⟩
  · obtain ⟨c1, c2, c3⟩ := r.bx c k h
    refine ⟨c1, c2, ?_⟩
    by_cases ca : c = a
    · subst ca
      rw [ha] at h
      cases h
      exact ⟨v, h0, f1⟩
    · by_cases cb : c = b
      · subst cb
        rw [hb] at h
        cases h
        exact ⟨xs, g0, gz, f3⟩
      · obtain ⟨o, e⟩ := c3.some
        rw [keep c o ca cb e, ← e]
        exact c3
  · obtain ⟨c1, c2⟩ := r.ow c od h
    obtain ⟨o, e⟩ := c2.some
    exact ⟨c1, c2.mono (.refl L) ((keep c o (fun q => by rw [q, a2] at h; cases h) (fun q => by rw [q, b2] at h; cases h) e).trans e.symm)⟩
theorem Pm.draw {x : Str} {st : Stmt} {N ps : List Str} {j : Nat} (T : Df K mg x st ps) (Sc : FnScope N ps (defScope st)) (hps : ps.length = 2)
    (h : ∀ (f : Addr) (cdv : Value) (A : Around) (outer : List Env) (s : Shared) (H : Hp) (E : XK), A.guards = some [] → Room j (A.deeper (envOfC x (defScope st) s.heap.objs.size f cdv)) → ∀ (O : Ow) (a b : Addr) (m : Int), 0 < m → m < 1073741824 → Open O a b →
      WSs (Bo P w K mg base N x st f cdv A outer s H E) (defBody st) (gst N.length [.own a, .int m]) O { nx := fun _ _ => False, rt := fun d O' => ∃ r : Int, d = .int r ∧ 0 ≤ r ∧ r < m ∧ Open O' a b }) : Pm P w K mg base x (j + 1) sDraw := by
  obtain ⟨f, fd, hm, F, hb, kp⟩ := T.ex
  refine ⟨f, fd, ps, ?_, hm, kp, hb⟩
  refine FnG.body F Sc (fun vs H Q E ⟨ds, L, O, k, kx, hi, _, ⟨m, e, _⟩, _⟩ => hi.length.trans (by rw [e]; exact hps.symm)) fun cdv A outer s H vs Q E hg hr hsp => ?_
  obtain ⟨ds, L, O, k, kx, is, r, ⟨m, rfl, m0, m1, hk⟩, q, _⟩ := hsp
  obtain ⟨x1, y1, rfl, ix, iy⟩ := is.two'
  obtain ⟨a, b, rfl, ha, hb2⟩ := ix.deal'
  obtain rfl := iy.int'
  obtain ⟨_, _, v, h0, e1⟩ := r.bx a _ ha
  obtain ⟨_, _, xs, g0, gz, e2⟩ := r.bx b _ hb2
  have ne : a ≠ b := fun z => by rw [z, hb2] at ha; cases ha
  have op : Open (put (put (fun _ => none) b (.lst (xs.map .int))) a (.lst [.own b, .int v])) a b := ⟨ne, v, xs, h0, g0, gz, put_same, by rw [put_ne ne.symm]; exact put_same⟩
  have z := h f cdv A outer s H E hg hr _ a b m m0 m1 op (start N [.ref a, .int m]) _ H (sl_start (.cons (.own a) (.cons (.int m) .nil))) (R.open (L := L) (O := O) ne e1 e2) { nx := fun _ H' => Q .non H', rt := Q }
    ⟨fun Γ' O' σ' L' H' z => z.elim, fun u d O' L' H' ⟨i, e, i0, i1, op'⟩ le is' r' => (by
      subst e
      obtain rfl := is'.int'
      exact q _ _ _ _ _ (hk i i0 i1) (.refl L) (.int i) (R.shut r ha hb2 le r' op')), fun _ _ _ _ _ a => a.elim, fun _ _ _ _ _ a => a.elim⟩
  exact fun pins s' I => (PSs.nox (pssu (X := (cxOf CX0 P w K mg base N x (defScope st) f cdv A outer s H E).nox) (defBody st))).run pins s' _ _ _ I z
end
end DL
/-! DL, part 7: zip of a list and a tuple; own [], len, properties; or by truth; slices of tuples; calls on a frozen view -/
namespace DL
open L2 PySem
open PySem.Spec PyProof.Rows

/-! ### zip(list, tuple) -/
/-- what it goes over, as it stands at each turn -/
def ItzW (K : PySem.W.Frag) (a b : Addr) : It where
  go i H := ∃ (xs ys : List V) (x y : V), SqL K H a xs ∧ SqT K H b ys ∧ xs[i]? = some x ∧ ys[i]? = some y
  yld i H v H' := ∃ T x y, v = .ref T ∧ H T = none ∧ H' = upd H T (.tup [x, y]) ∧ (∀ xs, SqL K H a xs → xs[i]? = some x) ∧ ∀ ys, SqT K H b ys → ys[i]? = some y
  stop i H := ∃ xs ys : List V, SqL K H a xs ∧ SqT K H b ys ∧ i ≤ xs.length ∧ i ≤ ys.length ∧ (i = xs.length ∨ i = ys.length)
theorem turn_zipW {P : Program} {w : World} {K : PySem.W.Frag} {elts : List Expr} {kk : Nat} {tpos : Pos} {a b z TI TO i1 i2 : Addr} (D : ZipSep2 z TI TO i1 i2 [i1, a] [i2, b]) (ha : a ≠ i1) (hb : b ≠ i2) :
    Turn P w K (.Tuple elts kk tpos) (ItzW K a b) [z, TI, TO, i1, i2] z (fun i h => IsZip h z TI TO .none ∧ IsTupOf2 h TI (.ref i1) (.ref i2) ∧ (∃ x y, IsTupOf2 h TO x y) ∧ h.IsListIter i1 a i ∧ h.IsTupleIter i2 b i) where
  mem := .head _
  obj := fun i h ⟨q1, q2, ⟨x, y, q3⟩, ⟨o4, q4, _, d4⟩, ⟨o5, q5, _, d5⟩⟩ c hc => by
    rcases in5 hc with rfl | rfl | rfl | rfl | rfl
    · exact ⟨_, q1, fun v e => nomatch e⟩
    · exact ⟨_, q2, fun v e => nomatch e⟩
    · exact ⟨_, q3, fun v e => nomatch e⟩
    · exact ⟨o4, q4, fun v e => by rw [d4] at e; cases e⟩
    · exact ⟨o5, q5, fun v e => by rw [d5] at e; cases e⟩
  keep := fun i h h' ⟨q1, q2, ⟨x, y, q3⟩, q4, q5⟩ k => ⟨k _ (by simp) _ q1, k _ (by simp) _ q2, ⟨x, y, k _ (by simp) _ q3⟩, q4.at fun o e => k _ (by simp) o e, q5.at fun o e => k _ (by simp) o e⟩
  item := by
    intro X hP hw hK hc i pins s σ H E I hf ⟨q1, q2, ⟨x0, y0, q3⟩, q4, q5⟩ ⟨xs, ys, x, y, hx, hy, ex, ey⟩
    subst hP hw hK
    obtain ⟨us, rx, px, _⟩ := I.list hx
    obtain ⟨ws, ry, py, _⟩ := I.tuple hy
    obtain ⟨u, hu, ru⟩ := rx.get ex
    obtain ⟨v, hv, rv⟩ := ry.get ey
    have zl : z < s.heap.objs.size := Heap.lt_size q1
    have lu := (List.getElem?_eq_some_iff.mp hu).1
    have lv := (List.getElem?_eq_some_iff.mp hv).1
    have Du := Draws.list (prog := X.prog) (w := X.w) (A := X.A.in1) (I.ok.hd hc) i1 a ha us.toArray
    have Dv := Draws.tuple (prog := X.prog) (w := X.w) (A := X.A.in1) (I.ok.hd hc) i2 b hb ws.toArray
    refine wpAny_pyNext_zipD2_item D Du Dv q1 q2 q3 ⟨q4, px.isList⟩ ⟨q5, py⟩ (by simpa using lu) (by simpa using lv) fun x1 x2 h1 tk g1 g2 z1 t1 n1 n2 new1 _ k1 => ?_
    obtain rfl : u = x1 := Option.some.inj (hu.symm.trans (by simpa using g1))
    obtain rfl : v = x2 := Option.some.inj (hv.symm.trans (by simpa using g2))
    refine ⟨_, rfl, wpAny_letOwnedTupleGo_zip (s := { s with heap := h1, toks := tk }) z1 fun h2 z2 sb => ?_⟩
    have keep : ∀ c o, c ≠ z → c ≠ TI → c ≠ TO → c ≠ i1 → c ≠ i2 → s.heap.get? c = some o → h2.get? c = some o := fun c o c1 _ c3 c4 c5 e => (sb.2 c c1).trans (k1 c o c1 c3 c4 c5 e)
    have far : s.heap.objs.size ≠ z := Nat.ne_of_gt zl
    have made : h2.get? s.heap.objs.size = some { cls := .type "tuple", data := .seq #[u, v] } := (sb.2 _ far).trans new1
    have okT : ObjOk X.prog X.w (upd H s.heap.objs.size (.tup [x, y])) h2 s.heap.objs.size (.tup [x, y]) := ⟨by show 2 ≤ sizeLine; decide, [u, v], .cons ru (.cons rv .nil), ⟨_, made, rfl, _, rfl⟩⟩
    have I2 : Inv X pins σ (upd H s.heap.objs.size (.tup [x, y])) { s with heap := h2, toks := tk } :=
      I.turnedNew (ch := [z, TI, TO, i1, i2]) (fun c o hc e => keep c o (fun q => hc (by simp [q])) (fun q => hc (by simp [q])) (fun q => hc (by simp [q])) (fun q => hc (by simp [q])) (fun q => hc (by simp [q])) e) hf (Nat.le_refl _) okT
    refine ⟨.ref s.heap.objs.size, _, I2, rfl, ⟨_, x, y, rfl, I.hok.fresh (Nat.le_refl _), rfl, fun l hl => (by rw [I.list_inj hl hx]; exact ex), fun l hl => (by rw [I.tuple_inj hl hy]; exact ey)⟩, ⟨z2, ?_, ⟨u, v, ?_⟩, ?_, ?_⟩, fun c hcm => ?_⟩
    · exact (sb.2 _ D.TIz).trans (k1 _ _ D.TIz D.TITO D.TIi1 D.TIi2 q2)
    · exact (sb.2 _ D.TOz).trans t1
    · exact n1.1.at fun o e => (sb.2 _ (Ne.symm D.zi1)).trans e
    · exact n2.1.at fun o e => (sb.2 _ (Ne.symm D.zi2)).trans e
    · have old : c < s.heap.objs.size := by
        rcases in5 hcm with rfl | rfl | rfl | rfl | rfl
        · exact zl
        · exact Heap.lt_size q2
        · exact Heap.lt_size q3
        · obtain ⟨_, e, _⟩ := q4
          exact Heap.lt_size e
        · obtain ⟨_, e, _⟩ := q5
          exact Heap.lt_size e
      rw [upd_ne (Nat.ne_of_lt old)]
      exact (hf c hcm).1
  done := by
    intro X hP hw hK hc i pins s σ H E I hf ⟨q1, q2, ⟨x0, y0, q3⟩, q4, q5⟩ ⟨xs, ys, hx, hy, le1, le2, hend⟩
    subst hP hw hK
    obtain ⟨us, rx, px, _⟩ := I.list hx
    obtain ⟨ws, ry, py, _⟩ := I.tuple hy
    have l1 := rx.length
    have l2 := ry.length
    have Du := Draws.list (prog := X.prog) (w := X.w) (A := X.A.in1) (I.ok.hd hc) i1 a ha us.toArray
    have Dv := Draws.tuple (prog := X.prog) (w := X.w) (A := X.A.in1) (I.ok.hd hc) i2 b hb ws.toArray
    have n1 : i ≤ us.toArray.size := by rw [List.size_toArray]; omega
    have n2 : i ≤ ws.toArray.size := by rw [List.size_toArray]; omega
    have n3 : i = us.toArray.size ∨ i = ws.toArray.size := by rw [List.size_toArray, List.size_toArray]; omega
    exact wpAny_pyNext_zipD2_end D Du Dv q1 q2 q3 ⟨q4, px.isList⟩ ⟨q5, py⟩ n1 n2 n3 fun h1 tk k1 => ⟨rfl, I.turnedL (t' := tk) (ch := [z, TI, TO, i1, i2]) (fun c o hc e => k1 c o (fun q => hc (by simp [q])) (fun q => hc (by simp [q])) (fun q => hc (by simp [q])) (fun q => hc (by simp [q])) e) hf⟩
  self := fun A i s Q E st h
      => wpAny_pyIter_zip st.1 h
theorem pi_zipW {X : Cx} {e e2 : Expr} {ta : TA} {p pos tpos : Pos} {elts : List Expr} {kk : Nat} (hg : Gl X "zip") (hm : X.mg "zip" = none) (ha : PA X [e, e2] ta)
    (hs : starEach [e, e2] X.env = (false, eval e X.env) :: starEach [e2] X.env) (hpl : (backTo pos (starEach [e2] X.env)).any (·.1) = false) :
    PI X (.Tuple elts kk tpos) (.Call (.Name "zip" p) [e, e2] [] pos) (fun σ H R => ta σ H fun vs H1 => ∃ (a b : Addr) (xs ys : List V), vs = [.ref a, .ref b] ∧ SqL X.K H1 a xs ∧ SqT X.K H1 b ys ∧ R (ItzW X.K a b) H1) := by
  refine ⟨fun pins s
      σ H R I h => ?_⟩
  refine Call_ (ld_blt I hg hm PyProof.Rows.boot_zip (PyProof.Rows.callWith_type1 (thn (ha.run pos pins s σ H _ I h) fun us s1 hv => ?_) hs hpl))
  obtain ⟨vs, H1, I1, r1, a, b, xs, ys, rfl, hx, hy, q⟩ := hv
  cases r1 with
  | cons ra rest =>
    cases rest with
    | cons rb rest =>
      cases rest
      cases ra
      cases rb
      obtain ⟨us, rx, px, _⟩ := I1.list hx
      obtain ⟨ws, ry, py, _⟩ := I1.tuple hy
      obtain ⟨oa, ea, _⟩ := id px.isList
      obtain ⟨ob, eb, _⟩ := id py
      have la : @LT.lt Nat _ a s1.heap.objs.size := Heap.lt_size ea
      have lb : @LT.lt Nat _ b s1.heap.objs.size := Heap.lt_size eb
      have na : ∀ m : Nat, a ≠ s1.heap.objs.size + m := fun m => Nat.ne_of_lt (Nat.lt_of_lt_of_le la (Nat.le_add_right _ m))
      have nb : ∀ m : Nat, b ≠ s1.heap.objs.size + m := fun m => Nat.ne_of_lt (Nat.lt_of_lt_of_le lb (Nat.le_add_right _ m))
      refine zip_begins2 (begins_list a us.toArray) (begins_tuple b ws.toArray) px.isList py fun h' z1 z2 z3 z4 z5 zs hk => wpAny_pyIter_zip z1 ?_
      have I2 : Inv X pins σ H1 { s1 with heap
          := h' } := I1.kept (t' := s1.toks) hk
      have young : ∀ c ∈ [s1.heap.objs.size + 4, s1.heap.objs.size + 2, s1.heap.objs.size + 3, s1.heap.objs.size, s1.heap.objs.size + 1], FpOk X pins H1 c := fun c hc => by
        have le : s1.heap.objs.size ≤ c := by
          rcases in5 hc with rfl | rfl | rfl | rfl | rfl <;> omega
        exact I1.fpOk le (I1.hok.fresh le)
      have D : ZipSep2 (s1.heap.objs.size + 4) (s1.heap.objs.size + 2) (s1.heap.objs.size + 3) s1.heap.objs.size (s1.heap.objs.size + 1) [s1.heap.objs.size, a] [s1.heap.objs.size + 1, b] := by
        constructor <;> simp [Ne.symm (na 4), Ne.symm (na 3), Ne.symm (na 1), Ne.symm (nb 4), Ne.symm (nb 3), Ne.symm (nb 0)]
        all_goals first | exact Ne.symm (nb 0) | exact Ne.symm (na 1) | omega
      exact ⟨s1.heap.objs.size + 4, _, _, _, H1, rfl, I2, turn_zipW D (na 0) (nb 1), ⟨z1, z2, ⟨_, _, z3⟩, ⟨_, z4, rfl, rfl⟩, ⟨_, z5, rfl, rfl⟩⟩, young, q⟩
theorem walk_zipW {K : PySem.W.Frag} {a b : Addr} {xs ys : List V} {n : Nat} (hn : n = min xs.length ys.length) : Walk (ItzW K a b) n (fun H => SqL K H a xs ∧ SqT K H b ys) (YPair (fun i => xs[i]?) (fun i => ys[i]?)) := by
  subst hn
  refine ⟨fun i _ hi q => ?_, fun _ q => ⟨xs, ys, q.1, q.2, by omega, by omega, by omega⟩, fun i H v H' _ q ⟨T, x, z, g1, g2, g3, g4, g5⟩ => ⟨T, x, z, g1, g2, g3, g4 xs q.1, g5 ys q.2⟩⟩
  have c1 : i < xs.length := by omega
  have c2 : i < ys.length := by omega
  exact ⟨xs, ys, _, _, q.1, q.2, List.getElem?_eq_getElem c1, List.getElem?_eq_getElem c2⟩
section
variable {X : Cx} {Γ : Sg} {O : Ow} {tg : Expr} {κ : List D → Ow → Prop}
theorem it_zipW {e e2 : Expr} {p pos tpos : Pos} {elts : List Expr} {kk : Nat} (hg : Gl X "zip") (hm : X.mg "zip" = none) (hst : starEach [e, e2] X.env = (false, eval e X.env) :: starEach [e2] X.env) (hpl : (backTo pos (starEach [e2] X.env)).any (·.1) = false)
    (h : WA X [e, e2] Γ O fun xs O1 => ∃ ds es, xs = [.lst ds, .tup es] ∧ κ (zipD ds es) O1) : ItD X (.Tuple elts kk tpos) (.Call (.Name "zip" p) [e, e2] [] pos) Γ O κ := by
  refine ⟨_, pi_zipW hg hm (pau [e, e2]) hst hpl, fun σ L H hs hr RR q => ?_⟩
  refine h σ L H hs hr _ fun vs xs O1 L1 H1 h1 e1 i1 r1 => ?_
  obtain ⟨ds, es, rfl, h1⟩ := h1
  obtain ⟨v, u, rfl, i1, i2⟩ := i1.two'
  obtain ⟨a, us, rfl, s, t⟩ := i1.lst'
  obtain ⟨b, ws, rfl, s', t'⟩ := i2.tup'
  refine ⟨a, b, us, ws, rfl, .inl (.inl (r1.hp _ _ s)), r1.st s', ?_⟩
  refine q _ _ (fun H => SqL X.K H a us ∧ SqT X.K H b ws) _ O1 L1 H1 h1 e1 (walk_zipW (by rw [zipD_len, t.length, t'.length])) (fun L2 O2 H2 le r => ⟨.inl (.inl (r.hp _ _ (le.hp _ _ s))), r.st (le_st le s')⟩) (fun i x L2 O2 H2 H3 hi le r y => ?_) r1
  rw [zipD_len] at hi
  have h1 : i < ds.length := by omega
  have h2 : i < es.length := by omega
  obtain ⟨L3, le3, r3, is⟩ := pair_new (d := ds[i]) (e := es[i]) r y (isL_nth t le h1) (isL_nth t' le h2)
  exact ⟨L3, _, le3, r3, zipD_at (List.getElem?_eq_getElem h1) (List.getElem?_eq_getElem h2), is⟩
end
/-! ### slices of tuples, pop, or by truth -/
section
variable {X : Cx} {Γ : Sg} {O : Ow} {k : KD} {De : DE}
theorem cutD_whole {ds : List D} {lo hi : Option Int} (hw : HT.sIx ds.length 0 lo = 0 ∧ HT.sIx ds.length ds.length hi = ds.length) : cutD ds lo hi = ds := by
  unfold cutD
  rw [hw.1, hw.2, List.drop_zero, Nat.sub_zero, List.take_length]
theorem wsl_tup {ds : List D} {lo hi : Option Int} (h : k (.tup (cutD ds lo hi)) O) : WSl X (.tup ds) lo hi O k := fun vx L H ix hr Q q => by
  obtain ⟨a, vs, rfl, s, t⟩ := id ix.tup'
  refine toSl sl_tupA ⟨a, vs, rfl, hr.st s, fun hw => ?_, fun _ p hp => ?_⟩
  · rw [t.length] at hw
    rw [cutD_whole hw] at h
    exact q _ _ _ _ _ h (.refl L) ix hr
  · obtain ⟨L', le, i, r⟩ := hr.newT hp (cut_is t lo hi)
    exact q _ _ _ _ _ h le i r
theorem wm_popL {p : Addr} {ds : List D} {d : D} (ho : O p = some (.lst ds)) (hd : ds[ds.length - 1]? = some d) (h : k d (put O p (.lst ds.dropLast))) : WM X "list.pop" (.own p) [] O k := fun vx vs L H ix is hr Q q => by
  cases is
  obtain ⟨xs, g1, g2⟩ := own_lst hr ho
  obtain rfl := ix.own'
  obtain ⟨v', e1, e2⟩ := g2.get hd
  refine toM mt_pop ⟨p, xs, v', rfl, rfl, g1, by rw [g2.length]; exact e1, ?_⟩
  have dl : IsL X.K L xs.dropLast ds.dropLast := by
    rw [List.dropLast_eq_take, List.dropLast_eq_take, g2.length]
    exact g2.take _
  exact q _ _ _ _ _ h (.refl L) e2 (hr.change ho ⟨_, upd_same, dl⟩)
/-- xs or b, xs a list -/
theorem we_orL {a b : Expr} {rest : List Expr} {pos : Pos} (h : WE X a Γ O fun x O1 => ∃ ds, SqD O1 x ds ∧ if ds.isEmpty = true then WE X (.BoolOp .Or (b :: rest) pos) Γ O1 k else k x O1) : WE X (.BoolOp .Or (a :: b :: rest) pos) Γ O k := fun σ L H hs hr Q q => by
  refine toE (pe_orT (pu a) (pu _)) ?_
  refine h σ L H hs hr _ fun v x O1 L1 H1 h1 e1 i1 r1 => ?_
  obtain ⟨ds, hd, h1⟩ := h1
  obtain ⟨p, vs, rfl, s, t⟩ := id (sqD_of r1 hd i1)
  have em : vs.isEmpty = ds.isEmpty := by
    cases t <;> rfl
  refine ⟨!vs.isEmpty, .inl ⟨vs, s, rfl⟩, ?_⟩
  rw [em]
  cases he : ds.isEmpty with
  | true =>
    rw [he] at h1
    have h1' : WE X (.BoolOp .Or (b :: rest) pos) Γ O1 k := h1
    exact iteF (h1' σ L1 H1 (hs.mono e1) r1 Q (q.le e1))
  | false =>
    rw [he] at h1
    have h1' : k x O1 := h1
    exact iteT (q _ _ _ _ _ h1' e1 i1 r1)
end
/-! ### own [], own len -/
section
variable {X : Cx} {Γ : Sg} {O : Ow} {k : KD} {C : Addr} {j : Nat} {S : SpD}
def Gi (K : PySem.W.Frag) (C : Addr) : Prop := ∀ f, PySem.W.findIn K (.ref C) "__getitem__" = some (some (.ref f)) → PySem.W.fnIn K f = true
theorem Gi.of {K : PySem.W.Frag} {qual : Str} {st : Stmt} {ps : List Str} (T : Dm K C "__getitem__" qual st ps) : Gi K C := fun f hf => by
  obtain ⟨g, fd, hm, F, _⟩ := T.ex
  have e : some (some (Value.ref g)) = some (some (Value.ref f)) := hm.at_.symm.trans hf
  cases e
  obtain ⟨_, _, _, _, _, _, _, cdv, _, _, ef, lk, hcd⟩ := F.ex
  unfold PySem.W.fnIn
  rw [lk]
theorem we_ixOwn {a b : Expr} {pos : Pos} (F : Km X C "__getitem__" j S) (gi : Gi X.K C) (hgd : X.A.guards = some []) (hr : Room (j + 1) X.A) (hsl : ∀ x i, subscripted b true (.ref x) i = runValue (.builtin "lifetime.subscript" ⟨[.ref x, i], []⟩))
    (h : WE X a Γ O fun x O1 => WE X b Γ O1 fun y O2 => ∃ fds, InD O2 x C fds ∧ S [x, y] O2 k fun _ _ _ => False) : WE X (.Subscript a b pos) Γ O k := fun σ L H hs hR Q q pins s I => by
  obtain ⟨f, fd, ps, G, M, bd⟩ := F.ex
  refine Subscript_ (binT (pu a) (pu b) I (R := fun vx vy H2 => ∃ (L2 : Lg) (x y : D) (O2 : Ow), L.le L2 ∧ Is X.K L2 vx x ∧ Is X.K L2 vy y ∧ R X.K L2 O2 H2 ∧ ∃ fds, InD O2 x C fds ∧ S [x, y] O2 k fun _ _ _ => False)
    (h σ L H hs hR _ fun vx x O1 L1 H1 h1 e1 i1 r1 => h1 σ L1 H1 (hs.mono e1) r1 _ fun vy y O2 L2 H2 h2 e2 i2 r2 => ⟨L2, x, y, O2, e1.trans e2, i1.mono e2, i2, r2, h2⟩) fun v u s2 vx vy H2 I2 rx ry hv => ?_)
  obtain ⟨L2, x, y, O2, le, i1, i2, r2, fds, hx, hS⟩ := hv
  obtain ⟨p1, dx, fs, rfl, ha, _, _⟩ := inD_of r2 hx i1
  cases rx
  obtain ⟨mA, J, _⟩ := ins_get I2.hok ha
  obtain ⟨od, J, _⟩ := J.look
  obtain ⟨m, hF⟩ := I2.fr
  refine PySem.W.sub_K hF I2.ok.mod.kin J M.at_ (gi f M.at_) M.fn ?_ (hsl _ _)
  exact run_gA (A := X.A.in1) (us := [.ref p1, u]) (vs := [.ref p1, vy]) G hgd hr.in1 I2.env0.in1 bd I2 (.cons rfl (.cons ry .nil)) (sp_of hS (.cons i1 (.cons i2 .nil)) r2 (q.le le))
theorem wc_lenOwn {x : D} {fds : List (Str × D)} (F : Km X C "__len__" j S) (hgd : X.A.guards = some []) (hr : Room (j + 1) X.A) (hx : InD O x C fds) (h : S [x] O (fun d O' => ∃ n : Int, d = .int n ∧ (0 ≤ n ∧ n < 2 ^ 63) ∧ k (.int n) O') fun _ _ _ => False) : DL.WC X (.builtin "len") [x] O k := fun vs L H is hR Q q => by
  obtain ⟨vx, rfl, ix⟩ := is.one'
  obtain ⟨a, dx, fs, rfl, ha, _, _⟩ := inD_of hR hx ix
  obtain ⟨f, fd, ps, G, M, bd⟩ := F.ex
  intro pins s σ us I rx
  obtain ⟨u, rfl, r1⟩ := Vals.one rx
  cases r1
  obtain ⟨mA, J,
      _⟩ := ins_get I.hok ha
  obtain ⟨od, J, _⟩ := J.look
  obtain ⟨m, hF⟩ := I.fr
  refine PySem.W.len_K hF I.ok.mod.kin J M.at_ M.fn ?_
  refine wpAny_mono (run_gA (A := X.A.in1) (us := [.ref a]) (vs := [.ref a]) (Q := fun w H' => ∃ n : Int, w = .int n ∧ (0 ≤ n ∧ n < 2 ^ 63) ∧ Q (.int n) H') G hgd hr.in1 I.env0.in1 bd I (.cons rfl .nil) (sp_of h (.cons ix .nil) hR (fun v d O' L' H' ⟨n, hd, hn, hk⟩ le i r' => by
    subst hd
    exact ⟨n, i.int', hn, q _ _ _ _ _ hk le (.int _) r'⟩))) (fun w s' z => ?_) fun _ _ e => e
  obtain ⟨z', H', I', rz, n, ez, hn, qz⟩ := z
  subst ez
  obtain ⟨t, rfl⟩ := rz
  exact ⟨hn, .int n, H', I'.tok _, ⟨_, rfl⟩, qz⟩
/-! ### a property that gives a field -/
structure Kp (X : Cx) (C : Addr) (f fld : Str) : Prop where
  ex : ∃ (p g : Addr) (fd : FuncData) (ps : List Str), PropOf X.K C f p g ∧ FnOk X.prog X.w X.K X.mg X.base CX0 1 g fd ps (getSp C fld) ∧ Binds X.K fd ps []
  cl : Cls X.K C
theorem we_prop {e : Expr} {f fld : Str} {pos : Pos} (F : Kp X C f fld) (hr : Room 2 X.A) (hb : attributeBase e f X.env (eval e X.env) = eval e X.env) (h : WE X e Γ O fun x O1 => ∃ fds d, InD O1 x C fds ∧ fds.lookup fld = some d ∧ k d O1) : WE X (.Attribute e f pos) Γ O k := fun σ L H hs hR Q q => by
  obtain ⟨p, g, fd, ps, hp, G, bd⟩ := F.ex
  refine toE (pe_prop (E := E0) (dvs := []) (ds := []) (pu e) F.cl hp G hr bd .nil (fun _ _ _ _ _ _ _ z => z.elim) hb) ?_
  refine h σ L H hs hR _ fun vx x O1 L1 H1 h1 e1 i1 r1 => ?_
  obtain ⟨fds, d, hx, hl, hk⟩ := h1
  obtain ⟨a, dx, fs, rfl, s1, s2, s3⟩ := inD_of r1 hx i1
  obtain ⟨v, g1, g2⟩ := (lookup_is s2 s3).1 d hl
  exact ⟨a, dx, fs, rfl, s1, a, dx, fs, v, rfl, s1, g1, q _ _ _ _ _ hk e1 g2 r1⟩
end
/-! ### a call on a frozen view: what is owned is read only -/
def Lg.all (L : Lg) (H : Hp) : Lg := ⟨fun c => if (L.bx c).isSome = true then none else H c, L.bx⟩
inductive Frz (O : Ow) : D → D → Prop
  | same (d : D) : Frz O d d
  | own {p : Addr} {ds : List D} : O p = some (.lst ds) → Frz O (.own p) (.lst ds)
  | lst1 {p : Addr} {ds : List D} : O p = some (.lst ds) → Frz O (.lst [.own p]) (.lst [.lst ds])
inductive FrzL (O : Ow) : List D → List D → Prop
  | nil : FrzL O [] []
  | cons {d e : D} {ds es : List D} : Frz O d e → FrzL O ds es → FrzL O (d :: ds) (e :: es)
section
variable {K : PySem.W.Frag} {L L' : Lg} {O O' : Ow} {H H' : Hp}
theorem R.le_all (r : R K L O H) : L.le (L.all H) := by
  refine ⟨fun c o h => ?_, fun _ _ h => h⟩
  show (if (L.bx c).isSome = true then none else H c) = some o
  cases e : L.bx c with
  | none => exact r.hp c o h
  | some k =>
    obtain ⟨z, _⟩ := r.bx c k e
    rw [z] at h
    cases h
theorem R.all (r : R K L O H) : R K (L.all H) (fun _ => none) H := by
  refine ⟨fun c o h => ?_, fun c k h => ?_, fun _ _ h => by cases h⟩
  · have h' : (if (L.bx c).isSome = true then none else H c) = some o := h
    split at h'
    · cases h'
    · exact h'
  · have h' : L.bx c = some k := h
    obtain ⟨_, _, z⟩ := r.bx c k h'
    refine ⟨?_, rfl, z⟩
    show (if (L.bx c).isSome = true then none else H c) = none
    rw [h']
    rfl
theorem R.all_own (r : R K L O H) {p : Addr} {ds : List D} (ho : O p = some (.lst ds)) : Is K (L.all H) (.ref p) (.lst ds) := by
  obtain ⟨vs, e, i⟩ := own_lst r ho
  refine .lst (vs := vs) ?_ (i.mono r.le_all)
  show (if (L.bx p).isSome = true then none else H p) = _
  cases q : L.bx p with
  | none => exact e
  | some k => obtain ⟨_, z, _⟩ := r.bx p k q; rw [z] at ho; cases ho
theorem Frz.is (r : R K L O H) {v : V} {d e : D} (f : Frz O d e) (i : Is K L v d) : Is K (L.all H) v e := by
  cases f with
  | same => exact i.mono r.le_all
  | own ho =>
    obtain rfl := i.own'
    exact r.all_own ho
  | lst1 ho =>
    obtain ⟨a, vs, rfl, s, t⟩ := i.lst'
    obtain ⟨u, rfl, i1⟩ := t.one'
    obtain rfl := i1.own'
    exact .lst (r.le_all.hp _ _ s) (.cons (r.all_own ho) .nil)
theorem FrzL.is (r : R K L O H) : ∀ {vs : List V} {ds es : List D}, FrzL O ds es → IsL K L vs ds → IsL K (L.all H) vs es
  | _, _, _, .nil, .nil => .nil
  | _, _, _, .cons f fs, .cons i is => .cons (f.is r i) (FrzL.is r fs is)
theorem R.back (r : R K L O H) (le : (L.all H).le L') (r' : R K L' O' H') : R K L O H' := by
  have keep : ∀ c o, L.bx c = none → H c = some o → H' c = some o := fun c o n h => r'.hp c o (le.hp c o (by
    show (if (L.bx c).isSome = true then none else H c) = some o
    rw [n]
    exact h))
  have nb : ∀ c o, L.hp c = some o → L.bx c = none := fun c o h => by
    cases q : L.bx c with
    | none => rfl
    | some k => obtain ⟨z, _⟩ := r.bx c k q; rw [z] at h; cases h
  refine ⟨fun c o h => keep c o (nb c o h) (r.hp c o h), fun c k h => ?_, fun c od h => ?_⟩
  · obtain ⟨a, b, _⟩ := r.bx c k h
    obtain ⟨_, _, z⟩ := r'.bx c k (le.bx c k h)
    exact ⟨a, b, z⟩
  · obtain ⟨a, b⟩ := r.ow c od h
    obtain ⟨o, e⟩ := b.some
    have n : L.bx c = none := by
      cases q : L.bx c with
      | none => rfl
      | some k => obtain ⟨_, z, _⟩ := r.bx c k q; rw [z] at h; cases h
    exact ⟨a, b.mono (.refl L) ((keep c o n e).trans e.symm)⟩
theorem is_flat {L' : Lg} {v : V} {d : D} (hf : d.flat = true) (h : Is K L v d) : Is K L' v d := by
  cases h with
  | own | box | lst | scr | tup | dic | ins | ty | byt | exc | any | deal | nums => cases hf
  | non => exact .non
  | bl b => exact .bl b
  | int b => exact .int b
  | str b => exact .str b
end
section
variable {X : Cx} {Γ : Sg} {O : Ow} {k : KD} {j : Nat} {S : SpD}
theorem we_callF {x : Str} {e : Expr} {es : List Expr} {p pos : Pos} (F : Kn X x j S) (hgd : X.A.guards = some []) (hr : Room j X.A) (he : starEach (e :: es) X.env = (false, eval e X.env) :: starEach es X.env) (hpl : (backTo pos (starEach es X.env)).any (·.1) = false)
    (h : WA X (e :: es) Γ O fun ds O1 => ∃ ds', FrzL O1 ds ds' ∧ S ds' (fun _ => none) (fun d _ => d.flat = true ∧ k d O1) fun _ _ _ => False) : WE X (.Call (.Name x p) (e :: es) [] pos) Γ O k := fun σ L H hs hR Q q pins s I => by
  obtain ⟨f, fd, ps, G, hm, hk, hb⟩ := F.ex
  refine wpAny_Call_Name_kw (ld_glob I F.gl hm ?_ F.db)
  refine PySem.W.callWith_K (h₀ := X.base) I.ok.mod.kin hk (thn (h σ L H hs hR (fun vs H1 => ∃ ds O1 L1, (∃ ds', FrzL O1 ds ds' ∧ S ds' (fun _ => none) (fun d _ => d.flat = true ∧ k d O1) fun _ _ _ => False) ∧ L.le L1 ∧ IsL X.K L1 vs ds ∧ R X.K L1 O1 H1) (fun vs ds O1 L1 H1 a b c d => ⟨ds, O1, L1, a, b, c, d⟩) pos pins s I) fun us s1 ⟨vs, H1, I1, rv, ds, O1, L1, ⟨ds', fz, h1⟩, le1, is1, r1⟩ => ⟨I1.kIn, ?_⟩) he hpl
  have hsp : spOf X.K S vs H1 Q (fun _ _ _ => False) := ⟨ds', L1.all H1, fun _ => none, _, fun _ _ _ => False, fz.is r1 is1, r1.all, h1, fun v d O' L' H' ⟨fl, hk⟩ le i r => q v d O1 L1 H' hk le1 (is_flat fl i) (r1.back le r), fun _ _ _ _ _ _ _ z => z.elim⟩
  have hl : (us ++ []).length = ps.length := by rw [List.append_nil, ← rv.length]; exact G.ln _ _ _ _ hsp
  refine wpAny_call (codeAny_mono (G.go X.A X.stack s1 H1 ⟨us, []⟩ (us ++ []) vs Q (fun _ _ _ => False) hgd hr I1.env0 (hb s1 us I1.kIn hl) (by rw [List.append_nil]; exact rv) hsp) fun r s' hq => ?_)
  match r, hq with
  | .ok (.ret u), hq => exact I1.after hq
  | .ok .next, hq => exact hq.elim
  | .ok .brk, hq => exact hq.elim
  | .ok .cont, hq => exact hq.elim
  | .error e, hq => exact hq.elim
end
/-! ### a def under another name -/
structure DfA (K : PySem.W.Frag) (mg : Str → Option Value) (x y : Str) (st : Stmt) (ps : List Str) : Prop where
  ex : ∃ (f : Addr) (fd : FuncData), mg x = some (.ref f) ∧ FunX K y y st f fd ∧ Binds K fd ps [] ∧ PySem.W.keepIn K (.ref f) = true
section
variable {base : Heap} {mg : Str → Option Value} {K : PySem.W.Frag} {w : World} {P : Program}
theorem Pm.ofA {x y : Str} {st : Stmt} {N ps : List Str} {j : Nat} {S : SpD} (T : DfA K mg x y st ps) (Sc : FnScope N ps (defScope st)) (len : ∀ ds O k kx, S ds O k kx → ds.length = ps.length)
    (h : ∀ (f : Addr) (cdv : Value) (A : Around) (outer : List Env) (s : Shared) (H : Hp) (E : XK), A.guards = some [] → Room j (A.deeper (envOfC y (defScope st) s.heap.objs.size f cdv)) → ∀ ds O k kx, S ds O k kx →
      WSs (Bo P w K mg base N y st f cdv A outer s H E) (defBody st) (gst N.length ds) O { nx := fun _ O' => Ret k .non O', rt := Ret k }) : Pm P w K mg base x (j + 1) S := by
  obtain ⟨f, fd, hm, F, hb, kp⟩ := T.ex
  exact ⟨f, fd, ps, fn_body F Sc len (h f), hm, kp, hb⟩
end
/-- .. where it stands -/
inductive DnA (K : PySem.W.Frag) (x y : Str) (st : Stmt) : Prop where
  | mk {f : Addr} {oc : Value} {od an : Option Addr} {osl : Array (Option Value)} {kV doc pm cdv ct : Value} (a : PySem.W.nsIn K mainGlobals x = some (some (.ref f)))
    (l : K.lookup f = some ⟨oc, od, .func (PySem.W.fnOf y y (defArgs st) (defBody st) (defScope st) .none kV doc pm an cdv ct), osl⟩) (c : PySem.W.codeIn K cdv y = true) (kp : PySem.W.keepIn K (.ref f) = true)
theorem DnA.df {K : PySem.W.Frag} {mg : Str → Option Value} {h : Heap} {x y : Str} {st : Stmt} {ps : List Str} (D : DnA K x y st) (X : K.In h) (G : h.Ns mainGlobals mg) (b : ∀ (kV doc pm : Value) (an : Option Addr) (cdv ct : Value) (us : List Value), us.length = ps.length → bindArgs (PySem.W.fnOf y y (defArgs st) (defBody st) (defScope st) .none kV doc pm an cdv ct) ⟨us, []⟩ = pure (ps.zip us)) : DfA K mg x y st ps := by
  obtain ⟨a, l, c, kp⟩ := D
  exact ⟨_, _, PySem.W.mg_of X G a, funx_mk l c, .all (b _ _ _ _ _ _), kp⟩
end DL
/-! DL, part 8: nested owned data seen frozen, comprehensions that make owned things, lists repeated -/
namespace DL
open L2 PySem
open PySem.Spec PyProof.Rows
mutual
inductive FzD (O : Ow) : D → D → Prop
  | same (d : D) : FzD O d d
  | own {p : Addr} {ds es : List D} : O p = some (.lst ds) → FzLs O ds es → FzD O (.own p) (.lst es)
inductive FzLs (O : Ow) : List D → List D → Prop
  | nil : FzLs O [] []
  | cons {d e : D} {ds es : List D} : FzD O d e → FzLs O ds es → FzLs O (d :: ds) (e :: es)
end
section
variable {K : PySem.W.Frag} {L L' : Lg} {O O' : Ow} {H H' : Hp}
theorem R.all_at (r : R K L O H) {p : Addr} {vs : List V} {ds : List D} (ho : O p = some (.lst ds)) (e : H p = some (.lst vs)) : (L.all H).hp p = some (.lst vs) := by
  show (if (L.bx p).isSome = true then none else H p) = _
  cases q : L.bx p with
  | none => exact e
  | some k => obtain ⟨_, z, _⟩ := r.bx p k q; rw [z] at ho; cases ho
mutual
theorem FzD.is (r : R K L O H) : ∀ {v : V} {d e : D}, FzD O d e → Is K L v d → Is K (L.all H) v e
  | _, _, _, .same _, i => i.mono r.le_all
  | v, _, _, .own (p := p) (ds := ds) (es := es) ho f, i => by
    obtain rfl := i.own'
    obtain ⟨vs, e1, i1⟩ := own_lst r ho
    exact .lst (r.all_at ho e1) (FzLs.is r f i1)
theorem FzLs.is (r : R K L O H) : ∀ {vs : List V} {ds es : List D}, FzLs O ds es → IsL K L vs ds → IsL K (L.all H) vs es
  | _, _, _, .nil, .nil => .nil
  | _, _, _, .cons f fs, .cons i is => .cons (FzD.is r f i) (FzLs.is r fs is)
end
end
section
variable {X : Cx} {Γ : Sg} {O : Ow} {k : KD} {j : Nat} {S : SpD}
theorem we_callZ {x : Str} {e : Expr} {es : List Expr} {p pos : Pos} (F : Kn X x j S) (hgd : X.A.guards = some []) (hr : Room j X.A) (he : starEach (e :: es) X.env = (false, eval e X.env) :: starEach es X.env) (hpl : (backTo pos (starEach es X.env)).any (·.1) = false)
    (h : WA X (e :: es) Γ O fun ds O1 => ∃ ds', FzLs O1 ds ds' ∧ S ds' (fun _ => none) (fun d _ => d.flat = true ∧ k d O1) fun _ _ _ => False) : WE X (.Call (.Name x p) (e :: es) [] pos) Γ O k := fun σ L H hs hR Q q pins s I => by
  obtain ⟨f, fd, ps, G, hm, hk, hb⟩ := F.ex
  refine wpAny_Call_Name_kw (ld_glob I F.gl hm ?_ F.db)
  refine PySem.W.callWith_K (h₀ := X.base) I.ok.mod.kin hk (thn (h σ L H hs hR (fun vs H1 => ∃ ds O1 L1, (∃ ds', FzLs O1 ds ds' ∧ S ds' (fun _ => none) (fun d _ => d.flat = true ∧ k d O1) fun _ _ _ => False) ∧ L.le L1 ∧ IsL X.K L1 vs ds ∧ R X.K L1 O1 H1) (fun vs ds O1 L1 H1 a b c d => ⟨ds, O1, L1, a, b, c, d⟩) pos pins s I) fun us s1 ⟨vs, H1, I1, rv, ds, O1, L1, ⟨ds', fz, h1⟩, le1, is1, r1⟩ => ⟨I1.kIn, ?_⟩) he hpl
  have hsp : spOf X.K S vs H1 Q (fun _ _ _ => False) := ⟨ds', L1.all H1, fun _ => none, _, fun _ _ _ => False, FzLs.is r1 fz is1, r1.all, h1, fun v d O' L' H' ⟨fl, hk⟩ le i r => q v d O1 L1 H' hk le1 (is_flat fl i) (r1.back le r), fun _ _ _ _ _ _ _ z => z.elim⟩
  have hl : (us ++ []).length = ps.length := by rw [List.append_nil, ← rv.length]; exact G.ln _ _ _ _ hsp
  refine wpAny_call (codeAny_mono (G.go X.A X.stack s1 H1 ⟨us, []⟩ (us ++ []) vs Q (fun _ _ _ => False) hgd hr I1.env0 (hb s1 us I1.kIn hl) (by rw [List.append_nil]; exact rv) hsp) fun r s' hq => ?_)
  match r, hq with
  | .ok (.ret u), hq => exact I1.after hq
  | .ok .next, hq => exact hq.elim
  | .ok .brk, hq => exact hq.elim
  | .ok .cont, hq => exact hq.elim
  | .error e, hq => exact hq.elim
theorem wo_fz {f : Value → Value → Sem Value} {x y x' y' : D} (hx : FzD O x x') (hy : FzD O y y') (h : WO X f x' y' (fun _ => none) fun d _ => d.flat = true ∧ k d O) : WO X f x y O k := fun vx vy L H ix iy hR Q q =>
  h vx vy (L.all H) H (hx.is hR ix) (hy.is hR iy) hR.all Q fun v d O' L' H' ⟨fl, hk⟩ le i r => q v d O L H' hk (.refl L) (is_flat fl i) (R.back hR le r)
theorem wo_rep {ds : List D} {n : Int} (h0 : -(2 ^ 63) ≤ n) (h1 : n < 2 ^ 63) (hz : ds.length * n.toNat ≤ sizeLine) (h : k (.lst (List.replicate n.toNat ds).flatten) O) : WO X (binaryOp .Mult) (.lst ds) (.int n) O k := fun vx vy L H ix iy hr Q q => by
  obtain ⟨a, vs, rfl, s, t⟩ := ix.lst'
  refine toO op_rep ⟨a, n, vs, rfl, iy.int', hr.hp _ _ s, h0, h1, by rw [t.length]; exact hz, fun p hp => ?_⟩
  have fl : ∀ m : Nat, IsL X.K L (List.replicate m vs).flatten (List.replicate m ds).flatten := fun m => by
    induction m with
    | zero => exact .nil
    | succ m ih =>
      rw [List.replicate_succ, List.replicate_succ,
          List.flatten_cons, List.flatten_cons]
      exact t.append ih
  obtain ⟨L', le, i, r⟩ := hr.newL hp (fl _)
  exact q _ _ _ _ _ h le i r
end
/-! ### comprehensions whose elements are owned things of their own -/
section
variable {X : Cx} {tg : Expr} {Γ : Sg} {O : Ow} {κ : List D → Ow → Prop}
def LcG (X : Cx) (elt : Expr) (scope : Scope) (vs : List Nat) (t : Tg) (Γ : Sg) (ds : List D) (O1 : Ow) (fin : List D → Ow → Prop) : Prop := ∃ P : Nat → List D → Ow → Prop, P 0 [] O1 ∧
  (∀ i d acc O', ds[i]? = some d → P i acc O' → ∀ O2 Dl, Agr O' O2 → O' Dl = none → O2 Dl = some (.lst acc) → ∃ Γ2, tgD t d (wipeD Γ vs) = some Γ2 ∧ BE X scope elt Γ2 O2 fun y O4 => acc.length < sizeLine ∧ O4 Dl = some (.lst acc) ∧ ∃ O5 : Ow, O5 Dl = none ∧ (∀ a od, O5 a = some od → O4 a = some od) ∧ P (i + 1) (acc ++ [y]) O5) ∧
  ∀ acc O', P ds.length acc O' → fin acc O'
theorem lc_runG {elt : Expr} {scope : Scope} {vs : List Nat} {t : Tg} {wi : TI} {tt : TT} (hi : ∀ i ∈ tgIx t, i ∈ vs)
    (hit : ∀ σ L H, Sl X.K L σ Γ → R X.K L O H → ∀ RR : It → Hp → Prop, (∀ J (ds : List D) (G : Hp → Prop) (Y : Nat → Hp → V → Hp → Prop) O' L' H', κ ds O' → L.le L' → Walk J ds.length G Y → (∀ L2 O2 H2, L'.le L2 → R X.K L2 O2 H2 → G H2) →
      (∀ i x L2 O2 H2 H3, i < ds.length → L'.le L2 → R X.K L2 O2 H2 → Y i H2 x H3 → ∃ L3 d, L2.le L3 ∧ R X.K L3 O2 H3 ∧ ds[i]? = some d ∧ Is X.K L3 x d) → R X.K L' O' H' → RR J H') → wi σ H RR)
    (htt : ∀ Γ O k, BTs X scope [] Γ O k → ∀ σ L H, Sl X.K L σ Γ → R X.K L O H → ∀ Q, FolT X.K L k Q → tt σ H Q)
    {kp : List D → Addr → Ow → Prop} (hk : ∀ ds O1, κ ds O1 → LcG X elt scope vs t Γ ds O1 fun acc O' => ∀ p, O' p = none → kp acc p (put O' p (.lst acc)))
    {σ : L2.St} {L : Lg} {H : Hp} (hs : Sl X.K L σ Γ) (hr : R X.K L O H) {Q : VK} (q : ∀ acc p O' L' H', kp acc p O' → L.le L' → R X.K L' O' H' → Q (.ref p) H') : tLc wi (tgG X.K t) tt (uBE X scope elt) vs σ H Q := by
  refine hit σ L H hs hr _ fun J ds G Y O1 L1 H1 h1 e1 w hG hY r1 => fun Dl hD => ?_
  obtain ⟨P, p0, step, fin⟩ := hk ds O1 h1
  obtain ⟨f1, f2, f3⟩ := r1.free hD
  have hs1 := sl_wipe (hs.mono e1) vs
  refine lc_it w (fun i H' => ∃ acc O' L', P i acc O' ∧ O' Dl = none ∧ L1.le L' ∧ R X.K L' (put O' Dl (.lst acc)) H') ⟨[], O1, L1, p0, f2, .refl L1, r1.newLO hD .nil⟩ (fun i H' hi ⟨acc, O', L', _, _, le, r⟩ => hG L' _ H' le r) ?_ ?_
  · rintro i x H2 H3 hlt ⟨acc, O', L', hP, hDn, le, r'⟩ hy
    obtain ⟨L3, d, le3, r3, hd, is⟩ := hY i x L' _ H2 H3 hlt le r' hy
    have agr : Agr O' (put O' Dl (.lst acc)) := fun a od h => by
      rw [put_ne (fun e => by rw [e, hDn] at h; cases h)]; exact h
    obtain ⟨Γ2, hT, hb⟩ := step i d acc O' hd hP _ Dl agr hDn put_same
    refine tg_run r3 vs t hi is (hs1.mono (le.trans le3)) hT _ fun σ2 s2 hw => ⟨hw.trans ?_, ?_⟩
    · clear hw s2
      have : ∀ us : List Nat, (∀ u ∈ us, u ∈ vs) → wipe (wipe σ us) vs = wipe σ vs := fun us => by
        induction us with
        | nil => intro _; rfl
        | cons u us ih =>
          intro hu
          show wipe ((wipe σ us).set u none) vs = wipe σ vs
          rw [wipe_set (hu u List.mem_cons_self)]
          exact ih fun z hz => hu z (List.mem_cons_of_mem _ hz)
      exact this vs fun _ h => h
    · refine htt Γ2 (put O' Dl (.lst acc)) (fun b O3 => b = true ∧ O3 = put O' Dl (.lst acc)) ⟨rfl, rfl⟩ σ2 L3 H3 s2 r3 _ fun b O3 L4 H4 h4 e4 r4 => ?_
      obtain ⟨rfl, rfl⟩ := h4
      refine iteT ?_
      intro s H0 C cl fp
      refine hb s H0 C cl fp σ2 L4 H4 (s2.mono e4) r4 _ fun v y O5 L5 H5 h5 e5 i5 r5 => ?_
      obtain ⟨hz, h6, O6, n6, sub, hP'⟩ := h5
      obtain ⟨xs, g1, g2⟩ := own_lst r5 h6
      refine ⟨xs, g1, by rw [g2.length]; exact hz, acc ++ [y], O6, L5, hP', n6, ((le.trans le3).trans e4).trans e5, ?_⟩
      have z := r5.change (od' := .lst (acc ++ [y])) h6 ⟨_, upd_same, g2.append (.cons i5 .nil)⟩
      refine z.sub fun a od h => ?_
      by_cases c : a = Dl
      · subst c
        rw [put_same] at h ⊢
        exact h
      · rw [put_ne c] at h ⊢
        exact sub a od h
  · rintro H' ⟨acc, O', L', hP, hDn, le, r'⟩
    exact q acc Dl _ L' H' (fin acc O' hP Dl hDn) (e1.trans le) r'
theorem ws_setLcG {elt iter : Expr} {scope : Scope} {pos spos py : Pos} {y : Str} {j : Nat} {De : DE} (own : List (Str × Nat)) (t : Tg) (hc : X.calm = true) (hN : X.N.Nodup) (hy : X.N[j]? = some y) (hyl : X.env.scope.names.lookup y = some .local)
    (hsw : swapsWith (.ListComp elt [⟨tg, iter, [], 0⟩] scope pos) (some (.Name y py)) spos.line X.env = pure true) (ok : blkC X.N X.env.scope scope own = true) (hfs : ∀ x, foldedSetIterable iter X.env x = pure x)
    (hg : ∀ (s : Shared) (H : Hp) (C : Addr) (cl : List (Str × Addr)) (fp : List Addr), PG (Bk X scope s H C cl fp) tg (tgG X.K t)) (hi : ∀ i ∈ tgIx t, i ∈ own.map (·.2))
    (h : ItD X tg iter Γ O fun ds O1 => LcG X elt scope (own.map (·.2)) t Γ ds O1 fun acc O' => ∀ p, O' p = none → De.nx (Γ.set j (some (.own p))) (put O' p (.lst acc))) : WS X (.Assign [.Name y py] (.ListComp elt [⟨tg, iter, [], 0⟩] scope pos) spos) Γ O De := fun σ L H hs hr E q => by
  obtain ⟨wi, hpi, hit⟩ := h
  obtain ⟨tt, ht, htt⟩ := bts_univ (X := X) [] (.inl rfl) scope
  refine toS (ps_setLc (i := j) hc hN hy hyl hsw hpi (blkOk_by ok) hg ht (te := uBE X scope elt) (fun s H C cl fp => ⟨fun pins s1 σ H1 Q I h => h s H C cl fp pins s1 I⟩) hfs) ?_
  exact lc_runG hi hit htt (fun ds O1 h => h) hs hr fun acc p O' L' H' a le r => q.nx _ _ _ _ _ a le ((hs.mono le).set (.own p) j) r
end
end DL
/-! DL, part 9: own exceptions with an __init__ of their own over any base, also KeyError -/
namespace DL
open L2 PySem
open PySem.Spec PyProof.Rows
section
variable {prog : Program} {w : World} {M : Model} {A : Around} {E : Value → Shared → Prop} {R : Result → Shared → Prop} {h : Heap} {g : Array GenState} {d : Drawn} {t : Nat} {os : OsState} {nm q : Str} {C N : Addr} {bs bm : List Value} {hdct : Bool} {sn : List Str} {sub : List Value} {ab : Bool} {col : Option Bool} {dd : Option Addr} {k0 k1 k2 k3 k5 : Option Value}
abbrev lkId : String := "LookupError.__new__"
theorem lk_check {rest : List Value} {Q : Unit → Shared → Prop} (hC : h.get? C = some (excClassObj nm q C N bs bm hdct sn sub ab col dd k0 k1 k2 k3 k5 lkId)) (hb : bm.contains (.type "LookupError") = true)
    (hq : Q () ⟨h, g, d, t, os⟩) : wpAny M A (checkBuiltinCall lkId ⟨.ref C :: rest, []⟩) Q E ⟨h, g, d, t, os⟩ := by
  have F := F.excBase_LookupError
  rw [checkBuiltinCall.eq_1, F.newKind, F.newSplit, F.newRow]
  have hb2 : (Value.ref C :: bm).contains (.type "LookupError") = true := by
    rw [List.contains_cons, hb, Bool.or_true]
  refine wpAny_bind (ks_wpAny_isType_cls hC rfl (wpAny_bind (wpAny_isSubtype_exc hC ?_)))
  rw [hb2]
  refine wpAny_bind (wpAny_staticBase_exc
      hC (wpAny_bind (wpAny_madeBy_exc hC ?_)))
  have e : (Manifest.canonical lkId != Manifest.canonical lkId) = false := by simp
  dsimp only
  rw [if_neg (by rw [e]; exact Bool.false_ne_true)]
  exact wpAny_pure hq
theorem lk_new {rest : List Value} (hsz : rest.length ≤ sizeLine) (hC : h.get? C = some (excClassObj nm q C N bs bm hdct sn sub ab col dd k0 k1 k2 k3 k5 lkId)) (hb : bm.contains (.type "LookupError") = true) (ha : bm.contains (.type "AttributeError") = false) (hn : bm.contains (.type "NameError") = false)
    (hq : R (.ok (.ret (.ref (h.objs.size + 1)))) ⟨(h.push (PySem.W.kdv_tup rest)).push (HandSPX.excO C h.objs.size), g, d, t, os⟩) : codeAny (model prog w) A (.call (.builtin lkId) ⟨.ref C :: rest, []⟩) R ⟨h, g, d, t, os⟩ := by
  have F := F.excBase_LookupError
  have e1 : (Code.builtin lkId ⟨.ref C :: rest, []⟩).quiet = true := by
    show (!(Thread.loud _)) = true
    simp [Thread.loud, Thread.atCollectorCode, Thread.atExit, Thread.yieldsInsideHandler, F.quiet]
  refine codeAny_call_builtin_code e1 (lk_check hC hb ?_)
  refine codeAny_builtin_at F.entry ?_
  unfold
      Builtin.«BaseException.__new__»
  refine PyProof.Rows.wpAt_bind (PyProof.Rows.wpAt_owner rfl F.ends (PyProof.Rows.wpAt_of_any ?_))
  rw [F.owner]
  have hb2 : (Value.ref C :: bm).contains (.type "LookupError") = true := by
    rw [List.contains_cons, hb, Bool.or_true]
  refine wpAny_bind (ks_wpAny_isType_cls hC rfl (wpAny_bind (wpAny_isSubtype_exc hC ?_)))
  rw [hb2]
  refine wpAny_bind (wpAny_madeHere_exc F.canon hC ?_)
  rw [PySem.W.XFast.xe2079833473336796715]
  unfold PySem.W.XFast.xw2079833473336796715
  rw [← PySem.W.XFast.xe16098473122060591676]
  refine wpAny_bind (wpAny_bind (wpAny_isSubtype_exc hC ?_))
  have hA : (Value.ref C :: bm).contains (.type "AttributeError") = false := by
    rw [List.contains_cons, ha, Bool.or_false]; rfl
  have hN : (Value.ref C :: bm).contains (.type "NameError") = false := by
    rw [List.contains_cons, hn, Bool.or_false]; rfl
  rw [hA]
  refine wpAny_bind (wpAny_isSubtype_exc hC ?_)
  rw [hN]
  refine wpAny_pure ?_
  refine wpAny_bind (wpAny_newTuple (hsz := hsz) ?_)
  refine wpAny_bind ?_
  rw [newObj.eq_5]
  rw [if_neg (by show ¬ (6 > sizeLine + 2); rw [sizeLine_eq]; omega)]
  show wpAny _ _ (newObjAsIs
      _ _ _) _ _ _
  rw [newObjAsIs.eq_1]
  refine wpAny_bind (wpAny_alloc
      ?_)
  refine wpAny_bind ?_
  unfold classHasDel
  have hC2 : ((h.push (PySem.W.kdv_tup rest)).push (HandSPX.excO C h.objs.size)).get? C = some (excClassObj nm q C N bs bm hdct sn sub ab col dd k0 k1 k2 k3 k5 lkId) := Heap.get?_push_of_some _ (Heap.get?_push_of_some _ hC)
  refine wpAny_bind (wpAny_load hC2 ?_)
  refine wpAny_pure ?_
  show wpAny _ _ (pure _) _ _ _
  refine wpAny_pure ?_
  refine wpAny_pure ?_
  show R (.ok (.ret (.ref (h.push _).objs.size))) _
  rw [Heap.size_push]
  exact hq
theorem lk_type_call {rest : List Value} {fI : Addr} {Q : PySem.Fin → Shared → Prop} (hsz : rest.length ≤ sizeLine) (hC : h.get? C = some (excClassObj nm q C N bs bm hdct sn sub ab col dd k0 k1 k2 k3 k5 lkId)) (hb : bm.contains (.type "LookupError") = true) (ha : bm.contains (.type "AttributeError") = false) (hn : bm.contains (.type "NameError") = false)
    (hi : PySem.W.Looks (model prog w) h (typeLookup (.ref C) "__init__") (some (.ref fI))) (hf : ∀ self : Value, PySem.W.Looks (model prog w) h (bindSpecial (.ref fI) self) (.ref fI, [self]))
    (hq : codeAny (model prog w) A (.call (.ref fI) ⟨.ref (h.objs.size + 1) :: rest, []⟩) (fun r s' => match r with
      | .ok (.ret v) => v = .none ∧ Q (.done (.ret (.ref (h.objs.size + 1)))) s'
      | .ok _ => False
      | .error e => E e s') ⟨(h.push (PySem.W.kdv_tup rest)).push (HandSPX.excO C h.objs.size), g, d, t, os⟩) :
    wpAny (model prog w) A (Builtin.«type.__call__» ⟨.ref C :: rest,
        []⟩) Q E ⟨h, g, d, t, os⟩ := by
  unfold
      Builtin.«type.__call__»
  have c1 : ((Value.ref C == Value.type "type") = true) = False := by simp
  dsimp only
  rw [if_neg (by rw [c1]; exact id)]
  refine wpAny_bind (wpAny_mroOf_exc
      hC ?_)
  refine wpAny_bind (wpAny_madeBy_exc hC ?_)
  dsimp only
  refine wpAny_bind (wpAny_pure (wpAny_bind (wpAny_holding (wpAny_call ?_))))
  refine lk_new hsz hC hb ha hn ?_
  dsimp only
  let h2 := (h.push (PySem.W.kdv_tup rest)).push (HandSPX.excO C h.objs.size)
  have old : ∀ b o, h.get? b = some o → h2.get? b = some o := fun b o z => Heap.get?_push_of_some _ (Heap.get?_push_of_some _ z)
  have new : h2.get? (h.objs.size + 1) = some (HandSPX.excO C h.objs.size) := by heap_get
  refine wpAny_bind ?_
  unfold isInstance
  refine wpAny_bind (wpAny_typeOf_ref new ?_)
  refine wpAny_isSubtype_exc (old _ _ hC) ?_
  have cc : (Value.ref C :: bm).contains (Value.ref C) = true := by rw [List.contains_cons]; simp
  rw [cc]
  refine wpAny_bind (wpAny_holding
      ?_)
  unfold callSpecial? specialOf
  refine wpAny_bind (wpAny_bind (wpAny_typeOf_ref new ?_))
  refine hi _ _ _ _ old ?_
  refine wpAny_holding (wpAny_bind
      ?_)
  refine hf _ _ _ _ _ old ?_
  refine wpAny_bind (wpAny_call (codeAny_mono hq fun r s' hr => ?_))
  match r, hr with
  | .ok (.ret v), hr =>
    obtain ⟨e1, hr⟩ := hr
    subst e1
    refine wpAny_pure ?_
    exact wpAny_pure hr
  | .ok .next, hr => exact hr.elim
  | .ok .brk, hr => exact hr.elim
  | .ok .cont, hr => exact hr.elim
  | .error e, hr => exact hr
theorem lk_call {rest : List Value} {fI : Addr} (hsz : rest.length ≤ sizeLine) (hC : h.get? C = some (excClassObj nm q C N bs bm hdct sn sub ab col dd k0 k1 k2 k3 k5 lkId)) (hb : bm.contains (.type "LookupError") = true) (ha : bm.contains (.type "AttributeError") = false) (hn : bm.contains (.type "NameError") = false)
    (hi : PySem.W.Looks (model prog w) h (typeLookup (.ref C) "__init__") (some (.ref fI))) (hf : ∀ self : Value, PySem.W.Looks (model prog w) h (bindSpecial (.ref fI) self) (.ref fI, [self]))
    (hq : codeAny (model prog w) (A.under (.builtin "type.__call__" ⟨.ref C :: rest, []⟩)) (.call (.ref fI) ⟨.ref (h.objs.size + 1) :: rest, []⟩) (PySem.W.InitBack (h.objs.size + 1) R) ⟨(h.push (PySem.W.kdv_tup rest)).push (HandSPX.excO C h.objs.size), g, d, t, os⟩) :
    codeAny (model prog w) A (.call (.ref C) ⟨rest,
        []⟩) R ⟨h, g, d, t, os⟩ := by
  refine codeAny_of_tree ?_
  show wpAny _ _ (callAny (.ref C) ⟨rest, []⟩) _ _ _
  unfold callAny
  refine wpAny_bind (wpAny_load hC ?_)
  show wpAny _ _ (callAny.viaDunder _ _) _ _ _
  unfold callAny.viaDunder specialOf
  refine wpAny_bind (wpAny_bind (wpAny_typeOf_ref hC ?_))
  rw [F.lookup_type_call]
  refine wpAny_pure ?_
  dsimp only
  rw [F.bind_type_call]
  refine wpAny_bind (wpAny_pure
      ?_)
  refine wpAny_bind ?_
  show wpAny _ _ (pure true) _ _ _
  refine wpAny_pure ?_
  show wpAny _ _ (pure (Fin.again _)) _ _ _
  refine wpAny_pure ⟨?_, ?_⟩
  · show (!(Thread.loud _)) = true
    simp [Thread.loud, Thread.atCollectorCode, Thread.atExit, Thread.yieldsInsideHandler]
  · refine codeAny_call_builtin_code ?_ (wpAny_check_type_call_sub hC ?_)
    · show (!(Thread.loud _)) = true
      simp [Thread.loud, Thread.atCollectorCode, Thread.atExit, Thread.yieldsInsideHandler]
    · refine codeAny_builtin_at F.entry_type_call (PyProof.Rows.wpAt_of_any ?_)
      refine lk_type_call hsz hC hb ha hn hi hf (codeAny_mono hq fun r s' hr => ?_)
      match r, hr with
      | .ok (.ret
            v), hr => exact hr
      | .ok .next, hr => exact hr.elim
      | .ok .brk, hr => exact hr.elim
      | .ok .cont, hr => exact hr.elim
      | .error e, hr => exact hr
end
def keMro : List Value := [.type "KeyError", .type "LookupError", .type "Exception", .type "BaseException", .type "object"]
theorem store_KeyError : StoreFacts "KeyError" keMro "object.__setattr__" "object" := by
  have F := F.store_IndexError
  refine ⟨by first | rfl | kernel_rfl, ?_, F.entry, F.kind, F.split, by first | rfl | decide, F.args, fun self => by first | rfl | kernel_rfl⟩
  refine Slot.of (by first | rfl | kernel_rfl) F.split (by first | rfl | kernel_rfl | decide) (by first | rfl | kernel_rfl | decide) (by first | exact .inl rfl | exact .inl (by kernel_rfl) | exact .inl (by decide)) (by first | rfl | kernel_rfl) F.slot.plain
theorem exc_osaG {prog : Program} {w : World} {A : Around} {R : Result → Shared → Prop} {hp : Heap} {g : Array GenState} {d : Drawn} {t : Nat} {os : OsState} {K : PySem.W.Frag} {name : Str} {tk : Tok} {v : Value} {x C t0 : Addr} {B : String} {bmB : List Value} (SF : StoreFacts B bmB "object.__setattr__" "object") (X : K.In hp)
    (hx : hp.get? x = some (HandSPX.excO C t0)) (ov : PySem.W.excOver K C bmB = true) (ti : PySem.W.takerIn K C name = some none) {cd : ClassData} (hc : PySem.W.Looks (model prog w) hp (classData C) cd) (hd : cd.hasDict = true)
    (hq : ∀ (h' : Heap) (tk' dx : Nat), (∀ (b : Addr) (o : Obj), b ≠ x → hp.get? b = some o → h'.get? b = some o) → hp.objs.size ≤ dx → dx ≠ x → h'.get? x = some { cls := .ref C, dict := some dx, data := .fields #[.ref t0, .none, .none, .none, .bool false, .none] } →
      (h'.Ns1 dx fun y => if y = name then some v else none) → R (.ok (.ret .none)) { heap := h', gens := g, drawn := d, toks := tk', os := os }) :
    codeAny (model prog w) A (.call (.builtin "object.__setattr__") ⟨[.ref x, .str name tk, v], []⟩) R { heap := hp, gens := g, drawn := d, toks := t, os := os } := by
  have nx : hp.objs.size ≠ x := Nat.ne_of_gt (Heap.lt_size hx)
  refine PySem.W.osa_openX SF X (ox := HandSPX.excO C t0) (od := none) ⟨hx, rfl, rfl, trivial⟩ ov ti fun b => ?_
  dsimp only
  unfold Builtin.ObjectAttr.storeInOwnDict
  refine wpAny_bind ?_
  show wpAny _ _ (pure ()) _ _ _
  refine wpAny_pure ?_
  dsimp only
  rw [if_neg (fun z => by have z2 : (false : Bool) = true := z; cases z2)]
  refine wpAny_bind ?_
  show wpAny _ _ (instanceDict x true) _ _ _
  refine PySem.W.instanceDict_exc (C := C) (t := t0) (c2 := .none) hx hc hd ?_
  dsimp only
  refine HandSPX.store_in_new ?_ fun h' tk' hn hsb => ?_
  · refine ⟨PySem.W.dictOf [] 0, #[], 0, ?_, rfl, ?_, fun _ => rfl⟩
    · rw [Heap.get?_update_ne _ _ _ _ nx]
      exact Heap.get?_push_size
          _ rfl
    · intro e he
      exact absurd he (by simp)
  · obtain ⟨hs, hk⟩ := hsb
    have keep : ∀ (b : Addr) (o : Obj), b ≠ x → hp.get? b = some o → h'.get? b = some o := fun b o hb e => by
      have lt := Heap.lt_size e
      rw [hk b (Nat.ne_of_lt lt), Heap.get?_update_ne _ _ _ _ hb]
      exact Heap.get?_push_of_some
          _ e
    refine hq h' tk' hp.objs.size keep (Nat.le_refl _) nx ?_ hn
    rw [hk x (Ne.symm nx)]
    have q := Heap.get?_push_of_some (PySem.W.dictOf [] 0) hx
    exact Heap.get?_update_self _ q rfl
/-- the text of an __init__(self, f) that keeps its argument -/
structure IniT (st : Stmt) (f : Str) : Prop where
  body : ∃ q1 q2 q3 q4, defBody st = [.Assign [.Attribute (.Name "self" q1) f q2] (.Name f q3) q4]
  bd : ∀ (m qual : Str) (kV doc pm : Value) (an : Option Addr) (cdv ct a b : Value), bindArgs (PySem.W.fnOf m qual (defArgs st) (defBody st) (defScope st) .none kV doc pm an cdv ct) ⟨[a, b], []⟩ = pure [(("self" : Str), a), (f, b)]
  lc : ∀ a b : Value, ([((("self" : Str), a) : Str × Value), (f, b)].all fun y => List.lookup y.1 (defScope st).names == some NameKind.local || List.lookup y.1 (defScope st).names == some NameKind.cell) = true
  k1 : ∀ (q : Str) (L a : Addr) (cd : Value), (envOfC q (defScope st) L a cd).kindOf "self" = some .local
  k2 : ∀ (q : Str) (L a : Addr) (cd : Value), (envOfC q (defScope st) L a cd).kindOf f = some .local
  b1 : ∀ (q : Str) (L a : Addr) (cd x v : Value), bindL (envOfC q (defScope st) L a cd).kindOf [(("self" : Str), x), (f, v)] (fun _ => none) "self" = some x
  b2 : ∀ (q : Str) (L a : Addr) (cd x v : Value), bindL (envOfC q (defScope st) L a cd).kindOf [(("self" : Str), x), (f, v)] (fun _ => none) f = some v
  nf : (f == ("__debug__" : Str)) = false
  sw : ∀ (q3 p1 p2 q4 : Pos) (q : Str) (L a : Addr) (cd : Value) (o : Expr), True → swapsWith (.Name f q3) (some (.Attribute o f p2)) q4.line (envOfC q (defScope st) L a cd) = pure false
  s1 : (defScope st).isCoroutine = false
  s2 : (defScope st).isGenerator = false
  s3 : (defScope st).kind = .function
/-- how a class of exceptions is called -/
def CallsBy (bm : List Value) (newId : String) : Prop :=
  (newId = lkId ∧ bm.contains (.type "LookupError") = true ∧ bm.contains (.type "AttributeError") = false ∧ bm.contains (.type "NameError") = false) ∨
  ∃ (B initId : String) (bmB : List Value), ExcBaseFacts B newId initId bmB ∧ ∀ X : String, bm.contains (.type X) = bmB.contains (.type X)
/-- a class of exceptions at C, over any base; its __init__, at fI, keeps one argument in f -/
structure ExCl (K : PySem.W.Frag) (C : Addr) (f qual : Str) (st : Stmt) : Prop where
  cls : ∃ nm q N bs bm sn sub ab col dd k0 k1 k2 k3 k5 newId, K.lookup C = some (excClassObj nm q C N bs bm true sn sub ab col dd k0 k1 k2 k3 k5 newId) ∧ CallsBy bm newId
  sf : ∃ (B : String) (bmB : List Value), StoreFacts B bmB "object.__setattr__" "object" ∧ PySem.W.excOver K C bmB = true
  sa : PySem.W.findIn K (.ref C) "__setattr__" = some (some
      (.builtin "object.__setattr__"))
  noF : PySem.W.takerIn K C f = some none
  exC : PySem.W.subIn K (.ref C) (.type
      "BaseException") = some true
  tyC : PySem.W.typeIn K (.ref
      C) = some (.type "type")
  kC : PySem.W.keepIn K (.ref
      C) = true
  ini : ∃ fI : Addr, PySem.W.findIn K (.ref C) "__init__" = some (some (.ref fI)) ∧ PySem.W.typeIn K (.ref fI) = some (.type "function") ∧
    ∃ (oc : Value) (od : Option Addr) (kV doc pm : Value) (an : Option Addr) (cdv ct : Value) (osl : Array (Option Value)), K.lookup fI = some ⟨oc, od, .func (PySem.W.fnOf "__init__" qual (defArgs st) (defBody st) (defScope st) .none kV doc pm an cdv ct), osl⟩ ∧ PySem.W.codeIn K cdv qual = true
  tx : IniT st f
section
variable {prog : Program} {w : World} {A : Around} {R : Result → Shared → Prop} {K : PySem.W.Frag} {C : Addr} {f qual : Str} {st : Stmt} {s : Shared}
theorem ld_loc {M : Model} {s : Shared} {E : Value → Shared → Prop} {q : Str} {scope : Scope} {L a : Addr} {cd : Value} {m : Str → Option Value} {x : Str} {pos : Pos} {v : Value} {Q : Value → Shared → Prop} (hk : scope.kind = .function) (hl : (envOfC q scope L a cd).kindOf x = some .local) (hd : (x == ("__debug__" : Str)) = false) (hn : s.heap.Ns L m) (hv : m x = some v) (h : Q v s) :
    wpAny M A (eval (.Name x pos) (envOfC q scope L a cd)) Q E s := wpAny_Name (wpAny_loadName_local hk hl hn hv h) hd
/-- what __init__ leaves of the new object at x -/
structure IniE (h h' : Heap) (x C dx t1 : Addr) (f : Str) (v : Value) : Prop where
  keep : ∀ b o, b ≠ x → h.get? b
      = some o → h'.get? b = some o
  obj : h'.get? x
    = some { cls := .ref C, dict := some dx, data := .fields #[.ref t1, .none, .none, .none, .bool false, .none] }
  big : h.objs.size ≤ dx
  ne : dx ≠ x
  ns : h'.Ns1 dx (fun y => if y = f then some v else none)
theorem ini_call {fI x t0 : Addr} {v : Value} {oc : Value} {od : Option Addr} {kV doc pm : Value} {an : Option Addr} {cdv ct : Value} {osl : Array (Option Value)} (T : ExCl K C f qual st) (Kin : K.In s.heap) (lim : s.heap.NoLimit) (hx : s.heap.get? x = some (HandSPX.excO C t0)) (room : A.depth < recursionLimit)
    (hf : K.lookup fI = some ⟨oc, od, .func (PySem.W.fnOf "__init__" qual (defArgs st) (defBody st) (defScope st) .none kV doc pm an cdv ct), osl⟩) (hcd : PySem.W.codeIn K cdv qual = true)
    (hq : ∀ h' tk dx, IniE s.heap h' x C dx t0 f v → R (.ok (.ret .none)) { s with heap := h', toks := tk }) : codeAny (model prog w) A (.call (.ref fI) ⟨[.ref x, v], []⟩) R s := by
  obtain ⟨nm, q, N, bs, bm, sn, sub, ab, col, dd, k0, k1, k2, k3, k5, newId, hC, _⟩ := T.cls
  obtain ⟨B, bmB, SF, ov⟩ := T.sf
  obtain ⟨q1, q2, q3, q4, eb⟩ := T.tx.body
  refine Att.call_fn (binds := [(("self" : Str), .ref x), (f, v)]) Kin lim hf hcd room (BindsTo.of_eq (T.tx.bd _ _ _ _ _ _ _ _ _ _)) (T.tx.lc _ _) (fun s₁ IC => ?_) T.tx.s1 T.tx.s2 T.tx.s3
  have hn := IC.toInCall.ns
  obtain ⟨h₁, tk₁, e1⟩ := IC.toInCall.same
  subst e1
  have kp : ∀ b o, s.heap.get? b = some o → h₁.get? b = some o := IC.toInCall.keep
  have X1 : K.In h₁ := Kin.keeps kp
  have hx1 := kp _ _ hx
  have hL : s.heap.objs.size ≠ x := Nat.ne_of_gt (Heap.lt_size hx)
  rw [eb]
  refine wpAny_execs_cons (plainObj_wpAny_Assign_Attribute ?_ (T.tx.sw _ q1 _ _ _ _ _ _ _ trivial))
  refine ld_loc T.tx.s3 (T.tx.k2 _ _ _ _) T.tx.nf hn (T.tx.b2 _ _ _ _ _ _) ?_
  refine ld_loc T.tx.s3 (T.tx.k1 _ _ _ _) (by decide) hn (T.tx.b1 _ _ _ _ _ _) ?_
  refine PySem.W.set_plain X1 (ox := HandSPX.excO C t0) (od := none) ⟨hx1, rfl, rfl, trivial⟩ T.sa ?_
  have lc : PySem.W.Looks (model prog w) h₁ (classData C) _ := PySem.W.looks_clsIn X1 (cd := { name := nm, bases := bs, mro := .ref C :: bm, ns := N, qualname := q, hasDict := true, slotNames := sn, subclasses := sub, abstract := ab, collection := col }) (by unfold PySem.W.clsIn; rw [hC] <;> rfl)
  refine exc_osaG SF X1 hx1 ov T.noF lc rfl fun h' tk' dx k3 big ne hx3 hn3 => ?_
  show wpAny _ _ (execs [] _) _ _ _
  have z : s.heap.objs.size
      < h₁.objs.size := hn.lt
  exact wpAny_execs_nil (hq h' tk' dx ⟨fun b o hb e => k3 b o hb (kp b o e), hx3, Nat.le_of_lt (Nat.lt_of_lt_of_le z big), ne, hn3⟩)
/-- a made exception -/
structure ExM (h h' : Heap) (e C d : Addr) (f : Str) (v : Value) : Prop where
  keep : ∀ b o, h.get? b =
      some o → h'.get? b = some o
  new : h.objs.size ≤ e
  obj : ∃ t1, h'.get? e = some { cls := .ref C, dict := some d, data := .fields #[.ref t1, .none, .none, .none, .bool false, .none] }
  big : h.objs.size ≤ d
  ne : d ≠ e
  ns : h'.Ns1 d (fun y => if y = f then some v else none)
theorem exc_call {v : Value} (T : ExCl K C f qual st) (Kin : K.In s.heap) (lim : s.heap.NoLimit) (room : A.depth + 1 < recursionLimit)
    (hq : ∀ h' tk e d, ExM s.heap h' e C d f v → R (.ok (.ret (.ref e))) { s with heap := h', toks := tk }) : codeAny (model prog w) A (.call (.ref C) ⟨[v], []⟩) R s := by
  obtain ⟨nm, q, N, bs, bm, sn, sub, ab, col, dd, k0, k1, k2, k3, k5, newId, hC, hcb⟩ := T.cls
  obtain ⟨fI, iC, tI, oc, od, kV, doc, pm, an, cdv, ct, osl, hf, hcd⟩ := T.ini
  obtain ⟨hp, g,
      dr, tk, os⟩ := s
  have one : [v].length ≤ sizeLine := by rw [sizeLine_eq]; exact (by decide : 1 ≤ 16777216)
  let h2 := (hp.push (PySem.W.kdv_tup [v])).push (HandSPX.excO C hp.objs.size)
  have old : ∀ b o, hp.get? b = some o → h2.get? b = some o := fun b o e => Heap.get?_push_of_some _ (Heap.get?_push_of_some _ e)
  have new : h2.get? (hp.objs.size + 1) = some (HandSPX.excO C hp.objs.size) := by heap_get
  have hi := PySem.W.looks_findIn (M := model prog w) Kin iC
  have hb := fun self => PySem.W.bind_fn (M := model prog w) Kin self tI
  have body : codeAny (model prog w) (A.under (.builtin "type.__call__" ⟨.ref C :: [v], []⟩)) (.call (.ref fI) ⟨.ref (hp.objs.size + 1) :: [v], []⟩) (PySem.W.InitBack (hp.objs.size + 1) R) ⟨h2, g, dr, tk, os⟩ := by
    refine ini_call (s := ⟨h2, g, dr, tk, os⟩) T (Kin.keeps old) (lim.keeps old) new room hf hcd fun h' tk' dx I => ?_
    have z : hp.objs.size
        + 1 + 1 ≤ dx := by
      have q := I.big
      have e : h2.objs.size = hp.objs.size + 1 + 1 := by
        show ((hp.push _).push _).objs.size = _
        rw [Heap.size_push,
            Heap.size_push]
      rw [← e]
      exact q
    exact ⟨rfl, hq h' tk' (hp.objs.size + 1) dx ⟨fun b o e => I.keep b o (Nat.ne_of_lt (Nat.lt_succ_of_lt (Heap.lt_size e))) (old b o e), Nat.le_succ _, ⟨_, I.obj⟩, Nat.le_trans (Nat.le_trans (Nat.le_succ _) (Nat.le_succ _)) z, I.ne, I.ns⟩⟩
  rcases hcb with ⟨rfl, c1, c2, c3⟩ | ⟨B, initId, bmB, EF, hcon⟩
  · exact lk_call one (Kin _ _ hC) c1 c2 c3 hi hb body
  · exact HandSPX.call_own EF hcon (Kin _ _ hC) hi hb one body
end
theorem rel_one {v : V} {v' : Value} (r : RelV v v') (f : Str) (y : Str) : RelO (List.lookup y [(f, v)]) (if y = f then some v' else none) := by
  by_cases hw : y = f
  · subst hw
    rw [if_pos rfl]
    have q : List.lookup y [(y, v)] = some v := by simp [List.lookup]
    rw [q]
    exact r
  · rw [if_neg hw]
    have qw : (y == f) = false := by simpa using hw
    have q2 : List.lookup y [(f, v)] = none := by simp [List.lookup, qw]
    rw [q2]
    trivial
/-- the exception class x at C -/
structure KxG (X : Cx) (x : Str) (C : Addr) (f : Str) : Prop where
  cl : ∃ (qual : Str) (st : Stmt), ExCl X.K C f qual st
  mg : X.mg x = some (.ref C)
  gl : Gl X x
  db : (x == ("__debug__" : Str)) = false
section
variable {X : Cx} {L0 : Lg} {kg : KG} {Γ : Sg} {O : Ow} {k : KD} {De : DE} {e : Expr} {pos : Pos}
theorem pmkG {x f : Str} {C : Addr} {j : Nat} {p cpos : Pos} {ta : TA} (F : KxG X x C f) (hr : Room (j + 1) X.A) (he : starEach [e] X.env = (false, eval e X.env) :: starEach [] X.env) (hpl : (backTo cpos (starEach [] X.env)).any (·.1) = false) (ha : PA X [e] ta) :
    L2.PMk X (.Call (.Name x p) [e] [] cpos) (fun σ H Q => ta σ H fun vs H1 => ∃ v, vs = [v] ∧ ∀ dx, H1 dx = none → Q (.ref C) (some dx) (upd H1 dx (.xd [(f, v)]))) := fun pins s σ H Q I h => by
  obtain ⟨qual, st, T⟩ := F.cl
  refine wpAny_Call_Name_kw (ld_glob I F.gl F.mg ?_ F.db)
  refine PySem.W.callWith_K (h₀ := X.base) I.ok.mod.kin T.kC (thn (ha.run cpos pins s σ H _ I h) ?_) he hpl
  rintro us ⟨hp, g, dr, tk, os⟩ ⟨vs, H1, I1, r1, v, rfl, q1⟩
  refine ⟨I1.kIn, ?_⟩
  cases r1 with
  | cons rv rn =>
    rename_i v' us'
    cases rn
    show wpAny _ _ (call
        (.ref C) [v']) _ _ _
    refine wpAny_call (exc_call T I1.kIn I1.nolimit (by have := hr.dp; omega) fun h' tk' a d M => ?_)
    show L2.MkP X pins σ Q (.ref a) ⟨h', g, dr, tk', os⟩
    obtain ⟨t1, hoe⟩ := M.obj
    obtain ⟨G, g1, g2⟩ := restrict h' fun b => decide (b ≠ a)
    have gk : ∀ b, b ≠ a → G.get? b = h'.get? b := fun b hb => g1 b (decide_eq_true hb)
    have ga : G.get? a = none := g2 a (by simp)
    have old : ∀ b o, hp.get? b = some o → G.get? b = some o := fun b o z => (gk b (Nat.ne_of_lt (Nat.lt_of_lt_of_le (Heap.lt_size z) M.new))).trans (M.keep b o z)
    have ob : ObjOk X.prog X.w (upd H1 d (.xd [(f, v)])) G d (.xd [(f, v)]) := ⟨_, M.ns.at (fun o z => (gk d M.ne).trans z), fun y => rel_one rv f y⟩
    have J : L2.Inv X pins σ (upd H1 d (.xd [(f, v)])) ⟨G, g, dr, tk', os⟩ := I1.laid (t' := tk') old M.big ob
    have nd : upd H1 d (.xd [(f, v)]) a = none := by rw [upd_ne (Ne.symm M.ne)]; exact I1.hok.fresh M.new
    have back : ∀ b o, G.get? b = some o → h'.get? b = some o := fun b o z => by
      by_cases hb : b = a
      · rw [hb, ga] at z; cases z
      · exact (gk b hb).symm.trans z
    exact ⟨a, _, _, ⟨G, g, dr, tk', os⟩, _, .ref C, some d, rfl, J, back, ga, hoe, ⟨rfl, rfl⟩, rfl, rfl, nd, rfl, I1.bare, raises_own T.exC T.tyC, q1 d (I1.hok.fresh M.big)⟩
/-- raise x(e), x over any base -/
theorem xs_raiseG {x f : Str} {C : Addr} {j : Nat} {p cpos : Pos} (hc : X.calm = true) (tx : Tx X L0 kg) (F : KxG X x C f) (hr : Room (j + 1) X.A) (he : starEach [e] X.env = (false, eval e X.env) :: starEach [] X.env) (hpl : (backTo cpos (starEach [] X.env)).any (·.1) = false)
    (h : WE X e Γ O fun d O1 => kg C [(f, d)] Γ O1) : WSx X L0 (.Raise (some (.Call (.Name x p) [e] [] cpos)) none pos) Γ O De := fun σ L H l0 hs hR E q => by
  obtain ⟨W, tk, tw⟩ := tx.ex
  refine toS (ps_raise hc tk (pmkG F hr he hpl (pau [e]))) ?_
  have ha : WA X [e] Γ O fun ds O1 => ∃ d, ds = [d] ∧ kg C [(f, d)] Γ O1 := wa_cons he (h.imp fun d O1 z => wa_nil ⟨d, rfl, z⟩)
  refine ha σ L H hs hR _ fun vs ds O1 L1 H1 h1 e1 i1 r1 => ?_
  obtain ⟨d, rfl, hk⟩ := h1
  obtain ⟨v, rfl, iv⟩ := i1.one'
  exact ⟨v, rfl, fun dx hdx => tw C dx [(f, v)] [(f, d)] Γ O1 σ L1 _ hk (l0.trans e1) (hs.mono e1) upd_same rfl (.cons iv .nil) (r1.aside hdx)⟩
end
end DL
/-! DL, part L: methods that may raise, also own [] -/
namespace DL
open L2 PySem
open PySem.Spec PyProof.Rows
section
variable {base : Heap} {mg : Str → Option Value} {K : PySem.W.Frag} {w : World} {P : Program}
structure PkX (P : Program) (w : World) (K : PySem.W.Frag) (mg : Str → Option Value) (base : Heap) (C : Addr) (m : Str) (j : Nat) (S : SpD) : Prop where
  ex : ∃ (f : Addr) (fd : FuncData) (ps : List Str), FnG P w K mg base (L2.CX P w) j f fd ps (spOf K S) ∧ Meth K C m f ∧ Binds K fd ps []
  cl : Cls K C
theorem PkX.of {C : Addr} {m qual : Str} {st : Stmt} {N ps : List Str} {j : Nat} {S : SpD} (T : Dm K C m qual st ps) (c : Cls K C) (Sc : FnScope N ps (defScope st)) (len : ∀ ds O k kx, S ds O k kx → ds.length = ps.length)
    (h : ∀ (f : Addr) (cdv : Value) (A : Around) (outer : List Env) (s : Shared) (H : Hp) (E : XK), A.guards = some [] → Room j (A.deeper (envOfC qual (defScope st) s.heap.objs.size f cdv)) → ∀ L0 ds O k kx, S ds O k kx →
      Tx (Bx P w K mg base N qual st f cdv A outer s H E) L0 (fun C fds _ O' => kx C fds O') →
      WSsx (Bx P w K mg base N qual st f cdv A outer s H E) L0 (defBody st) (gst N.length ds) O { nx := fun _ O' => Ret k .non O', rt := Ret k }) : PkX P w K mg base C m (j + 1) S := by
  obtain ⟨f, fd, hm, F, hb⟩ := T.ex
  exact ⟨⟨f, fd, ps, fn_bodyX F Sc len (h f), hm, hb⟩, c⟩
end
/-- a method that is known and may raise -/
structure KmX (X : Cx) (C : Addr) (m : Str) (j : Nat) (S : SpD) : Prop where
  ex : ∃ (f : Addr) (fd : FuncData) (ps : List Str), FnG X.prog X.w X.K X.mg X.base (L2.CX X.prog X.w) j f fd ps (spOf X.K S) ∧ Meth X.K C m f ∧ Binds X.K fd ps []
  cl : Cls X.K C
theorem PkX.km {P : Program} {w : World} {K : PySem.W.Frag} {mg : Str → Option Value} {base : Heap} {C : Addr} {m : Str} {j : Nat} {S : SpD} (F : PkX P w K mg base C m j S) {X : Cx} (e1 : X.prog = P) (e2 : X.w = w) (e3 : X.K = K) (e4 : X.mg = mg) (e5 : X.base = base) : KmX X C m j S := by
  subst e1 e2 e3 e4 e5
  exact ⟨F.ex, F.cl⟩
section
variable {X : Cx} {L0 : Lg} {kg : KG} {Γ : Sg} {O : Ow} {k : KD} {De : DE} {C : Addr} {m : Str} {j : Nat} {S : SpD}
theorem run_gX {pins : List (Addr × Obj)} {σ : L2.St} {H : Hp} {s : Shared} {Q : VK} {W : WX} {A : Around} {us : List Value} {vs : List V} {f : Addr} {fd : FuncData} {ps : List Str} {sp : Sp} (tk : Takes X W) (G : FnG X.prog X.w X.K X.mg X.base (L2.CX X.prog X.w) j f fd ps sp) (hgd : A.guards = some []) (hr : Room j A) (e0 : Env0 X.prog X.w X.K X.mg X.base A X.stack s H) (hb : Binds X.K fd ps [])
    (I : Inv X pins σ H s) (r : Vals vs us) (h : sp vs H Q (fun cls d H' => W cls d σ H')) : wpAny (model X.prog X.w) A (call (.ref f) us) (EP X pins σ Q) X.xe s := by
  have hl : (us ++ []).length = ps.length := by rw [List.append_nil, ← r.length]; exact G.ln _ _ _ _ h
  refine wpAny_call (codeAny_mono (G.go A X.stack s H ⟨us, []⟩ (us ++ []) vs Q _ hgd hr e0 (hb s us I.kIn hl) (by rw [List.append_nil]; exact r) h) fun r s' hq => ?_)
  cases r with
  | error e => exact tk _ _ (XE.of_call I (fun _ _ _ h => h) hq)
  | ok fl =>
    cases fl with
    | ret u => exact I.after hq
    | next => exact False.elim hq
    | brk => exact False.elim hq
    | cont => exact False.elim hq
theorem sp_ofX {K : PySem.W.Frag} {W : WX} {σ : L2.St} {vs : List V} {ds : List D} {L : Lg} {H : Hp} {Q : VK}
    (tw : ∀ (C d : Addr) (fs : List (Str × V)) (fds : List (Str × D)) (Γ : Sg) (O : Ow) (σ : L2.St) (L : Lg) (H : Hp), kg C fds Γ O → L0.le L → Sl K L σ Γ → H d = some (.xd fs) → fs.map (·.1) = fds.map (·.1) → IsL K L (fs.map (·.2)) (fds.map (·.2)) → R K L O H → W (.ref C) (some d) σ H)
    (h : S ds O k fun Ce fe O3 => kg Ce fe Γ O3) (l0 : L0.le L) (hs : Sl K L σ Γ) (i : IsL K L vs ds) (r : R K L O H) (q : Fol K L k Q) : spOf K S vs H Q (fun cls d H' => W cls d σ H') :=
  ⟨ds, L, O, k, _, i, r, h, q, fun Ce d fs fe O3 L3 H3 hk le3 a b c r3 => tw Ce d fs fe Γ O3 σ L3 H3 hk (l0.trans le3) (hs.mono le3) a b c r3⟩
theorem we_methX {o e : Expr} {es : List Expr} {apos pos : Pos} {pl : Sem Bool} (F : KmX X C m j S) (tx : Tx X L0 kg) (hgd : X.A.guards = some []) (hr : Room j X.A)
    (hst : starEach (e :: es) X.env = (false, eval e X.env) :: starEach es X.env) (hpl : (backTo pos (starEach es X.env)).any (·.1) = false)
    (ht : eval (.Call (.Attribute o m
        apos) (e :: es) [] pos) X.env = (do
      let obj ← eval o X.env
      standAt apos.atName
      let (fn, head) ← holding [obj] (getMethod obj m pl)
      callWith pos fn head (backTo pos (starEach (e :: es) X.env)) (backToKw pos (keywordEach [] X.env))))
    (h : WE X o Γ O fun x O1 => ∃ fds, InD O1 x C fds ∧ fds.lookup m = none ∧ WA X (e :: es) Γ O1 fun ds O2 => S (x :: ds) O2 k fun Ce fe O3 => kg Ce fe Γ O3) : WEx X L0 (.Call (.Attribute o m apos) (e :: es) [] pos) Γ O k := fun σ L H l0 hs hR Q q pins s I => by
  obtain ⟨W, tk, tw⟩ := tx.ex
  obtain ⟨f, fd, ps, G, hm, hb⟩ := F.ex
  refine PySem.W.methodCall_KW (pl := pl) (thn (h σ L H hs hR (fun v H1 => ∃ x O1 L1, (∃ fds, InD O1 x C fds ∧ fds.lookup m = none ∧ WA X (e :: es) Γ O1 fun ds O2 => S (x :: ds) O2 k fun Ce fe O3 => kg Ce fe Γ O3) ∧ L.le L1 ∧ Is X.K L1 v x ∧ R X.K L1 O1 H1) (fun v x O1 L1 H1 a b c d => ⟨x, O1, L1, a, b, c, d⟩) pins s I)
    fun u s1 ⟨v, H1, I1, rv, x, O1, L1, ⟨fds, hi, hl, h2⟩, le1, is1, r1⟩ => ?_) ht
  obtain ⟨a, dx, fs, rfl, g1, g2, g3⟩ := inD_of r1 hi is1
  obtain rfl : u = Value.ref a := rv
  refine getmeth_ok I1 g1 F.cl hm ((lookup_is g2 g3).2 hl) ?_
  refine PySem.W.callWith_K (first := [.ref a]) (h₀ := X.base) I1.ok.mod.kin hm.kp (thn (h2 σ L1 H1 (hs.mono le1) r1 (fun vs H2 => ∃ ds O2 L2, (S (x :: ds) O2 k fun Ce fe O3 => kg Ce fe Γ O3) ∧ L1.le L2 ∧ IsL X.K L2 vs ds ∧ R X.K L2 O2 H2) (fun vs ds O2 L2 H2 a b c d => ⟨ds, O2, L2, a, b, c, d⟩) pos pins s1 I1)
    fun us s2 ⟨vs, H2, I2, rvs, ds, O2, M2, h3, le2, is2, r2⟩ => ⟨I2.kIn, ?_⟩) hst hpl
  have le := le1.trans le2
  exact run_gX (us := .ref a :: us) (vs := .ref a :: vs) tk G hgd hr I2.env0 hb I2 (.cons rfl rvs) (sp_ofX tw h3 (l0.trans le) (hs.mono le) (.cons (is1.mono le2) is2) r2 (q.le le))
theorem we_ixOwnX {a b : Expr} {pos : Pos} (F : KmX X C "__getitem__" j S) (tx : Tx X L0 kg) (gi : Gi X.K C) (hgd : X.A.guards = some []) (hr : Room (j + 1) X.A) (hsl : ∀ x i, subscripted b true (.ref x) i = runValue (.builtin "lifetime.subscript" ⟨[.ref x, i], []⟩))
    (h : WE X a Γ O fun x O1 => WE X b Γ O1 fun y O2 => ∃ fds, InD O2 x C fds ∧ S [x, y] O2 k fun Ce fe O3 => kg Ce fe Γ O3) : WEx X L0 (.Subscript a b pos) Γ O k := fun σ L H l0 hs hR Q q pins s I => by
  obtain ⟨W, tk, tw⟩ := tx.ex
  obtain ⟨f, fd, ps, G, M, bd⟩ := F.ex
  refine Subscript_ (binT (pu a) (pu b) I (R := fun vx vy H2 => ∃ (L2 : Lg) (x y : D) (O2 : Ow), L.le L2 ∧ Is X.K L2 vx x ∧ Is X.K L2 vy y ∧ R X.K L2 O2 H2 ∧ ∃ fds, InD O2 x C fds ∧ S [x, y] O2 k fun Ce fe O3 => kg Ce fe Γ O3)
    (h σ L H hs hR _ fun vx x O1 L1 H1 h1 e1 i1 r1 => h1 σ L1 H1 (hs.mono e1) r1 _ fun vy y O2 L2 H2 h2 e2 i2 r2 => ⟨L2, x, y, O2, e1.trans e2, i1.mono e2, i2, r2, h2⟩) fun v u s2 vx vy H2 I2 rx ry hv => ?_)
  obtain ⟨M2, x, y, O2, le, i1, i2, r2, fds, hx, hS⟩ := hv
  obtain ⟨p1, dx, fs, rfl, ha, _, _⟩ := inD_of r2 hx i1
  cases rx
  obtain ⟨mA, J, _⟩ := ins_get I2.hok ha
  obtain ⟨od, J, _⟩ := J.look
  obtain ⟨m, hF⟩ := I2.fr
  refine PySem.W.sub_K hF I2.ok.mod.kin J M.at_ (gi f M.at_) M.fn ?_ (hsl _ _)
  exact run_gX (A := X.A.in1) (us := [.ref p1, u]) (vs := [.ref p1, vy]) tk G hgd hr.in1 I2.env0.in1 bd I2 (.cons rfl (.cons ry .nil)) (sp_ofX tw hS (l0.trans le) (hs.mono le) (.cons i1 (.cons i2 .nil)) r2 (q.le le))
end
end DL
/-! DL, part O: a caught exception and builtin classes, lists cleared -/
namespace DL
open L2 PySem
open PySem.Spec PyProof.Rows
section
variable {X : Cx} {L0 : Lg} {kg : KG} {Γ : Sg} {O : Ow} {k : KD} {De : DE}
/-- isinstance(e, U), U a builtin class -/
theorem wc_isiXT {a C dd : Addr} {U : String} {oe : Obj} {pn : List (Addr × Obj)} {fds : List (Str × D)} {b : Bool} (T : ExcC X.K C) (hz : Zc (.ref C) (some dd) oe) (hv : ∃ vs, oe.data = .fields vs) (hk : PySem.W.kitOne X.K (.ref C) (.type U) = some b)
    (h : k (.bl b) O) : WC (X.suite a ((a, oe) :: pn)) (.builtin "isinstance") [.exc a dd fds, .ty U] O k := fun vs L H is hr Q q => by
  obtain ⟨v, u, rfl, i1, i2⟩ := is.two'
  obtain ⟨fs, rfl, hd, e1, e2⟩ := i1.exc'
  obtain rfl := i2.ty'
  have fin : Q (.bl b) H := q _ _ _ _ _ h (.refl L) (.bl _) hr
  intro pins s σ us I rx
  cases rx with
  | cons r1 t1 =>
    cases t1 with
    | cons r2 t2 =>
      cases t2
      cases r1
      cases r2
      obtain ⟨ha, _⟩ := I.pin (a, oe) (List.mem_append_left _ List.mem_cons_self)
      obtain ⟨ws, hws⟩ := hv
      have hx : ObjOk X.prog X.w H s.heap dd (.xd fs) := I.hok dd _ (hr.hp _ _ hd)
      obtain ⟨mA, hns, _⟩ := hx
      obtain ⟨od, ho, _⟩ := lookIn_ns hns
      have J : PySem.W.InstAt s.heap a oe C (some od) := ⟨ha, hz.1, by unfold PySem.W.notCls; rw [hws] <;> rfl, by rw [hz.2]; exact ho⟩
      have hcl : (PySem.W.clsIn X.K C).isSome = true := by
        obtain ⟨cd, hc, _⟩ := PySem.W.any_some T.hd
        rw [hc]; rfl
      exact PySem.W.kia_one (PySem.W.kitx_exc hcl T.hg T.hk T.hs T.ha T.hn T.ht T.hm) I.kIn J hk (fun z => nomatch z) fun tk => ⟨.bl b, H, I.kept (t' := tk) fun _ _ z => z, rfl, fin⟩
theorem wm_clear {p : Addr} {ds : List D} (ho : O p = some (.lst ds)) (h : k .non (put O p (.lst []))) : WM X "list.clear" (.own p) [] O k := fun vx vs L H ix is hr Q q => by
  cases is
  obtain ⟨xs, g1, g2⟩ := own_lst hr ho
  obtain rfl := ix.own'
  refine toM mt_clear ⟨p, xs, rfl, rfl, g1, ?_⟩
  exact q _ _ _ _ _ h (.refl L) .non (hr.change ho ⟨_, upd_same, .nil⟩)
end
end DL
/-! DL, part a: a view in which all is known and nothing is owned; lists that a loop clears -/
namespace DL
open L2 PySem
open PySem.Spec PyProof.Rows
mutual
/-- data of tuples and of frozen instances: no list, no dict -/
inductive Tpl : D → Prop
  | non : Tpl .non
  | bl (b : Bool) : Tpl (.bl b)
  | int (i : Int) : Tpl (.int i)
  | str (x : Str) : Tpl (.str x)
  | tup {ds : List D} : TplL ds → Tpl (.tup ds)
  | ins {C : Addr} {fds : List (Str × D)} : TplL (fds.map (·.2)) → Tpl (.ins C fds)
inductive TplL : List D → Prop
  | nil : TplL []
  | cons {d : D} {ds : List D} : Tpl d → TplL ds → TplL (d :: ds)
end
theorem tplL {ds : List D} (h : ∀ d ∈ ds, Tpl d) : TplL ds := by
  induction ds with
  | nil => exact .nil
  | cons d ds ih => exact .cons (h d List.mem_cons_self) (ih fun e he => h e (List.mem_cons_of_mem _ he))
def OD.lt : OD → Prop
  | .lst _ => True
  | .tab _ => True
  | _ => False
def cut (L' : Lg) (O : Ow) (L : Lg) : Lg := ⟨fun a => if (O a).isSome = true ∨ (L.bx a).isSome = true then none else L'.hp a, L.bx⟩
section
variable {K : PySem.W.Frag} {L L' : Lg} {O O' : Ow} {H H' : Hp}
theorem cut_keep (r : R K L O H) (ho : ∀ a od, O a = some od → od.lt) (le : (L.all H).le L') (r' : R K L' O' H') {a : Addr} {u : HO} (h : L'.hp a = some u) (h1 : ∀ vs, u ≠ .lst vs) (h2 : ∀ ps, u ≠ .tbl ps) : (cut L' O L).hp a = some u := by
  show (if (O a).isSome = true ∨ (L.bx a).isSome = true then none else L'.hp a) = some u
  rw [if_neg ?_]
  · exact h
  rintro (q | q)
  · obtain ⟨od, e⟩ := Option.isSome_iff_exists.mp q
    obtain ⟨z, hz⟩ := r.ow a od e
    have nb : L.bx a = none := by
      cases b : L.bx a with
      | none => rfl
      | some k => obtain ⟨_, w, _⟩ := r.bx a k b; rw [w] at e; cases e
    have key : ∀ o, H a = some o → o = u := fun o ho => by
      have w : (L.all H).hp a = some o := by
        show (if (L.bx a).isSome = true then none else H a) = some o
        rw [nb]
        exact ho
      exact Option.some.inj ((le.hp _ _ w).symm.trans h)
    have lt := ho a od e
    cases od with
    | lst ds => obtain ⟨vs, e1, _⟩ := hz; exact h1 vs (key _ e1).symm
    | tab t => obtain ⟨ps, e1, _⟩ := hz; exact h2 ps (key _ e1).symm
    | dic _ => exact lt
    | ins _ _ => exact lt
    | xcp _ _ => exact lt
  · obtain ⟨k, e⟩ := Option.isSome_iff_exists.mp q
    obtain ⟨w, _⟩ := r'.bx a k (le.bx a k e)
    rw [w] at h
    cases h
theorem cut_le (r : R K L O H) (le : (L.all H).le L') : L.le (cut L' O L) := by
  refine ⟨fun a o h => ?_, fun _ _ h => h⟩
  show (if (O a).isSome = true ∨ (L.bx a).isSome = true then none else L'.hp a) = some o
  rw [if_neg ?_]
  · exact le.hp _ _ (r.le_all.hp _ _ h)
  rintro (q | q)
  · obtain ⟨od, e⟩ := Option.isSome_iff_exists.mp q
    obtain ⟨z, _⟩ := r.ow a od e
    rw [h] at z
    cases z
  · obtain ⟨k, e⟩ := Option.isSome_iff_exists.mp q
    obtain ⟨z, _⟩ := r.bx a k e
    rw [h] at z
    cases z
theorem R.cut (r : R K L O H) (le : (L.all H).le L') (r' : R K L' O' H') : R K (cut L' O L) O H' := by
  have b := r.back le r'
  refine ⟨fun a o h => ?_, fun a k h => ?_, fun a od h => ?_⟩
  · have h' : (if (O a).isSome = true ∨ (L.bx a).isSome = true then none else L'.hp a) = some o := h
    split at h'
    · cases h'
    · exact r'.hp a o h'
  · have h' : L.bx a = some k := h
    obtain ⟨_, e2, e3⟩ := b.bx a k h'
    refine ⟨?_, e2, e3⟩
    show (if (O a).isSome = true ∨ (L.bx a).isSome = true then none else L'.hp a) = none
    rw [if_pos (.inr (by rw [h']; rfl))]
  · obtain ⟨_, e2⟩ := b.ow a od h
    refine ⟨?_, e2.mono (cut_le r le) rfl⟩
    show (if (O a).isSome = true ∨ (L.bx a).isSome = true then none else L'.hp a) = none
    rw [if_pos (.inl (by rw [h]; rfl))]
theorem cut_sq (r : R K L O H) (ho : ∀ a od, O a = some od → od.lt) (le : (L.all H).le L') (r' : R K L' O' H') {a : Addr} {vs : List V} (h : SqT K L'.hp a vs) : SqT K (cut L' O L).hp a vs := by
  rcases h with (h | ⟨o,
      h⟩) | h
  · exact .inl (.inl (cut_keep r ho le r' h (fun _ e => by cases e) fun _ e => by cases e))
  · exact .inl (.inr ⟨o, cut_keep r ho le r' h (fun _ e => by cases e) fun _ e => by cases e⟩)
  · exact .inr h
mutual
theorem Tpl.is (r : R K L O H) (ho : ∀ a od, O a = some od → od.lt) (le : (L.all H).le L') (r' : R K L' O' H') : ∀ {v : V} {d : D}, Tpl d → Is K L' v d → Is K (DL.cut L' O L) v d
  | _, _, .non, .non => .non
  | _, _, .bl _, .bl b => .bl b
  | _, _, .int _, .int b => .int b
  | _, _, .str _, .str b => .str b
  | _, _, .tup t, .tup s i => .tup (cut_sq r ho le r' s) (TplL.is r ho le r' t i)
  | _, _, .ins t, .ins s k i => .ins (cut_keep r ho le r' s (fun _ e => by cases e) fun _ e => by cases e) k (TplL.is r ho le r' t i)
theorem TplL.is (r : R K L O H) (ho : ∀ a od, O a = some od → od.lt) (le : (L.all H).le L') (r' : R K L' O' H') : ∀ {vs : List V} {ds : List D}, TplL ds → IsL K L' vs ds → IsL K (DL.cut L' O L) vs ds
  | _, _, .nil, .nil => .nil
  | _, _, .cons t ts, .cons i is => .cons (Tpl.is r ho le r' t i) (TplL.is r ho le r' ts is)
end
end
/-- slots seen frozen -/
inductive FzG (O : Ow) : Sg → Sg → Prop
  | nil : FzG O [] []
  | off {o : Option D} {Γ Γ' : Sg} : FzG O Γ Γ' → FzG O (o :: Γ) (none :: Γ')
  | on {d e : D} {Γ Γ' : Sg} : FzD O d e → FzG O Γ Γ' → FzG O (some d :: Γ) (some e :: Γ')
section
variable {X : Cx} {Γ Γ' : Sg} {O : Ow} {k : KD}
theorem FzG.sl {K : PySem.W.Frag} {L : Lg} {H : Hp} (r : R K L O H) : ∀ {Γ Γ' : Sg} {σ : L2.St}, FzG O Γ Γ' → Sl K L σ Γ → Sl K (L.all H) σ Γ'
  | _, _, σ, .nil, h => ⟨h.len, fun i d e => by simp at e⟩
  | _, _, [], .off f, h => absurd h.len (by simp)
  | _, _, [], .on _ f, h => absurd h.len (by simp)
  | o :: Γ, _, v :: σ, .off f, h => by
    have ih := FzG.sl r f (σ := σ) ⟨by simpa using h.len, fun i d e => by simpa using h.at_ (i + 1) d (by simpa using e)⟩
    refine ⟨by simpa using ih.len, fun i d e => ?_⟩
    cases i with
    | zero => simp at e
    | succ i => simpa using ih.at_ i d (by simpa using e)
  | some d :: Γ, some e0 :: _, v :: σ, .on fz f, h => by
    have ih := FzG.sl r f (σ := σ) ⟨by simpa using h.len, fun i d e => by simpa using h.at_ (i + 1) d (by simpa using e)⟩
    refine ⟨by simpa using ih.len, fun i e he => ?_⟩
    cases i with
    | zero =>
      have he' : e0 = e := by simpa using he
      subst he'
      obtain ⟨w, e1, e2⟩ := h.at_ 0 d rfl
      exact ⟨w, e1, fz.is r e2⟩
    | succ i => simpa using ih.at_ i e (by simpa using he)
/-- an expression in the view where nothing is owned; what it gives is of tuples -/
theorem we_view {e : Expr} (hΓ : FzG O Γ Γ') (ho : ∀ a od, O a = some od → od.lt) (h : WE X e Γ' (fun _ => none) fun d _ => Tpl d ∧ k d O) : WE X e Γ O k := fun σ L H hs hr Q q =>
  h σ (L.all H) H (hΓ.sl hr hs) hr.all Q fun v d O' L' H' ⟨t, hk⟩ le i r => q v d O _ H' hk (cut_le hr le) (t.is hr ho le r i) (hr.cut le r)
end
/-! ### a loop that clears the lists among the things of a list -/
def zD : Option Addr × List D → D
  | (some a, _) => .own a
  | (none, r) => .tup r
def clr1 (O : Ow) (x : Option Addr × List D) : Ow := match x.1 with
  | some a => put O a (.lst [])
  | none => O
def clr (O : Ow) (rz : List (Option Addr × List D)) : Ow := rz.foldl clr1 O
def onlyAt (n i : Nat) (d : D) : Sg := (List.replicate n none).set i (some d)
def allBut (L : Lg) (H : Hp) (a : Addr) : Lg := ⟨fun c => if (L.bx c).isSome = true ∨ c = a then none else H c, L.bx⟩
theorem clr_at {a : Addr} : ∀ (rz : List (Option Addr × List D)) {O : Ow} {ds : List D}, O a = some (.lst ds) → ds.all D.flat = true → ∃ es, clr O rz a = some (.lst es) ∧ es.all D.flat = true
  | [], O, ds, h, hf => ⟨ds, h, hf⟩
  | (none, r) :: rz, O, ds, h, hf => clr_at rz (O := O) h hf
  | (some b, r) :: rz, O, ds, h, hf => by
    by_cases e : a = b
    · subst e
      exact clr_at rz (O := put O a (.lst [])) (ds := []) put_same rfl
    · exact clr_at rz (O := put O b (.lst [])) (by rw [put_ne e]; exact h) hf
theorem clr_ne {a : Addr} : ∀ (rz : List (Option Addr × List D)) {O : Ow}, (∀ x ∈ rz, x.1 ≠ some a) → clr O rz a = O a
  | [], O, _ => rfl
  | (none, r) :: rz, O, h => clr_ne rz (O := O) fun x hx => h x (List.mem_cons_of_mem _ hx)
  | (some b, r) :: rz, O, h => by
    have e : a ≠ b := fun e => h _ List.mem_cons_self (by rw [e])
    exact (clr_ne rz (O := put O b (.lst [])) fun x hx => h x (List.mem_cons_of_mem _ hx)).trans (put_ne e)
theorem only_sl {K : PySem.W.Frag} {L : Lg} {σ : L2.St} {n i : Nat} {v : V} {d : D} (hl : σ.length = n) (h : σ[i]? = some (some v)) (is : Is K L v d) : Sl K L σ (onlyAt n i d) := by
  refine ⟨by unfold onlyAt; rw [List.length_set, List.length_replicate, hl], fun j e he => ?_⟩
  unfold onlyAt at he
  by_cases c : i = j
  · subst c
    have hi : i < n := by
      have := (List.getElem?_eq_some_iff.mp h).1
      omega
    rw [List.getElem?_set_self (by rw [List.length_replicate]; exact hi)] at he
    cases he
    exact ⟨v, h, is⟩
  · rw [List.getElem?_set_ne c, List.getElem?_replicate] at he
    split at he <;> cases he
theorem flat_isL {K : PySem.W.Frag} {L L' : Lg} : ∀ {vs : List V} {ds : List D}, ds.all D.flat = true → IsL K L vs ds → IsL K L' vs ds
  | _, _, _, .nil => .nil
  | _, _, h, .cons i is => by
    rw [List.all_cons,
        Bool.and_eq_true] at h
    exact .cons (is_flat h.1 i) (flat_isL h.2 is)
section
variable {K : PySem.W.Frag} {L L' : Lg} {O O' : Ow} {H H' : Hp} {a : Addr}
theorem R.allBut (r : R K L O H) {ds : List D} (ho : O a = some (.lst ds)) (hf : ds.all D.flat = true) : R K (allBut L H a) (put (fun _ => none) a (.lst ds)) H := by
  have nb : L.bx a = none := by
    cases b : L.bx a with
    | none => rfl
    | some k => obtain ⟨_, w, _⟩ := r.bx a k b; rw [w] at ho; cases ho
  refine ⟨fun c o h => ?_, fun c k h => ?_, fun c od h => ?_⟩
  · have h' : (if (L.bx c).isSome = true ∨ c = a then none else H c) = some o := h
    split at h'
    · cases h'
    · exact h'
  · have h' : L.bx c = some k := h
    obtain ⟨_, _, z⟩ := r.bx c k h'
    refine ⟨?_, ?_, z⟩
    · show (if (L.bx c).isSome = true ∨ c = a then none else H c) = none
      rw [if_pos (.inl (by rw [h']; rfl))]
    · rw [put_ne (fun e => by rw [e, nb] at h'; cases h')]
  · by_cases e : c = a
    · subst e
      rw [put_same] at h
      cases h
      obtain ⟨vs, e1, e2⟩ := own_lst r ho
      refine ⟨?_, vs, e1, flat_isL hf e2⟩
      show (if (L.bx c).isSome = true ∨ c = c then none else H c) = none
      rw [if_pos (.inr rfl)]
    · rw [put_ne e] at h
      cases h
theorem allBut_keep (r' : R K L' O' H') (le : (DL.allBut L H a).le L') {c : Addr} {o : HO} (hb : L.bx c = none) (hc : c ≠ a) (h : H c = some o) : H' c = some o :=
  r'.hp c o (le.hp c o (by
    show (if (L.bx c).isSome = true ∨ c = a then none else H c) = some o
    rw [hb, if_neg (fun z => z.elim (fun z => by cases z) hc)]
    exact h))
theorem R.cleared (r : R K L O H) {ds : List D} (ho : O a = some (.lst ds)) (le : (DL.allBut L H a).le L') (r' : R K L' O' H') (ha : O' a = some (.lst [])) : R K L (put O a (.lst [])) H' := by
  have na := (r.ow a _ ho).1
  have nb : ∀ c, (∃ o, L.hp c = some o) ∨ (∃ od, O c = some od) → L.bx c = none := fun c hc => by
    cases b : L.bx c with
    | none => rfl
    | some k =>
      obtain ⟨w1, w2, _⟩ := r.bx c k b
      rcases hc with ⟨o, e⟩ | ⟨o, e⟩
      · rw [w1] at e; cases e
      · rw [w2] at e; cases e
  refine ⟨fun c o h => ?_, fun c k h => ?_, fun c od h => ?_⟩
  · exact allBut_keep r' le (nb c (.inl ⟨o, h⟩)) (fun e => by rw [e, na] at h; cases h) (r.hp c o h)
  · obtain ⟨w1, w2, _⟩ := r.bx c k h
    obtain ⟨_, _, w3⟩ := r'.bx c k (le.bx c k h)
    exact ⟨w1, by rw [put_ne (fun e => by rw [e, ho] at w2; cases w2)]; exact w2, w3⟩
  · by_cases e : c = a
    · subst e
      rw [put_same] at h
      cases h
      obtain ⟨vs, e1, e2⟩ := own_lst r' ha
      cases e2
      exact ⟨na, [], e1, .nil⟩
    · rw [put_ne e] at h
      obtain ⟨w1, w2⟩ := r.ow c od h
      obtain ⟨u, hu⟩ := w2.some
      exact ⟨w1, w2.mono (.refl L) ((allBut_keep r' le (nb c (.inr ⟨od, h⟩)) e hu).trans hu.symm)⟩
end
section
variable {X : Cx} {Γ : Sg} {O : Ow} {De : DE}
theorem ws_clears {x y : Str} {i j : Nat} {g : Addr} {rz : List (Option Addr × List D)} {c cl : Expr} {p1 p2 pE pI pF : Pos} (hp : PassesOwn (model X.prog X.w) X.A X.env X.xe) (hc : X.calm = true) (hfs : ∀ z, foldedSetIterable (.Name y p2) X.env z = pure z)
    (hN : X.N.Nodup) (hxi : X.N[i]? = some x) (hxl : L2.Loc X.env.scope x) (hxf : X.fn x = true ∨ List.lookup x X.env.scope.names = some NameKind.local) (hsw : swapsWith cl none pE.line X.env = pure false)
    (hy : Va X y j) (hj : Γ[j]? = some (some (.own g))) (hi : i < Γ.length) (hg : O g = some (.lst (rz.map zD))) (hng : ∀ x ∈ rz, x.1 ≠ some g) (hz : ∀ x ∈ rz, ∀ a, x.1 = some a → O a = some (.lst x.2) ∧ x.2.all D.flat = true)
    (ht1 : ∀ ds, WT X c (onlyAt Γ.length i (.lst ds)) (fun _ => none) fun t _ => t = true) (ht2 : ∀ ds, WT X c (onlyAt Γ.length i (.tup ds)) (fun _ => none) fun t _ => t = false)
    (hcl : ∀ a ds O', O' a = some (.lst ds) → WE X cl (onlyAt Γ.length i (.own a)) O' fun _ O1 => O1 = put O' a (.lst [])) (h : De.nx (Γ.set i none) (clr O rz)) :
    WS X (.For (.Name x p1) (.Name y p2) [.If c [.Expr cl pE] [] pI] [] pF) Γ O De := fun σ L H hs hr E q => by
  refine toS (ps_for hp hc (pi_list (pu (.Name y p2))) (pg_name (pos := p1) hN hxi hxl hxf) (pssu _) hfs) ?_
  refine (we_var (k := fun d O1 => d = .own g ∧ O1 = O) (pos := p2) hy hj ⟨rfl, rfl⟩) σ L H hs hr _ fun v d O1 L1 H1 h1 e1 i1 r1 => ?_
  obtain ⟨hd, ho⟩ := h1
  subst hd
  subst ho
  obtain rfl := i1.own'
  obtain ⟨vs, g1, g2⟩ := own_lst r1 hg
  refine ⟨g, rfl, ⟨vs, .inl (.inl g1)⟩, ?_⟩
  have nbg : L1.bx g = none := by
    cases b : L1.bx g with
    | none => rfl
    | some k => obtain ⟨_, w, _⟩ := r1.bx g k b; rw [w] at hg; cases hg
  have hlen : vs.length = rz.length := by rw [g2.length, List.length_map]
  refine for_it (walk_list (K := X.K) (a := g) (xs := vs)) (fun n σ' H' => σ'.length = σ.length ∧ (∀ k, k ≠ i → σ'[k]? = σ[k]?) ∧ R X.K L1 (clr O1 (rz.take n)) H' ∧ H' g = some (.lst vs)) ⟨rfl, fun _ _ => rfl, r1, g1⟩ (fun n σ' H' _ hP => .inl (.inl hP.2.2.2)) ?_ ?_
  · rintro n xv σ' H2 H3 hn ⟨hl, hk, hr2, hgv⟩ ⟨hH, hxv⟩
    subst hH
    have hnr : n < rz.length := by omega
    have hrz : rz[n]? = some rz[n] := List.getElem?_eq_getElem hnr
    obtain ⟨d, hd, is⟩ := g2.getV hxv
    rw [List.getElem?_map, hrz] at hd
    have hd : zD rz[n] = d := Option.some.inj hd
    have hmem : rz[n] ∈ rz := List.getElem_mem hnr
    have tk : rz.take (n + 1) = rz.take n ++ [rz[n]] := by rw [List.take_succ, hrz]; rfl
    have tc : clr O1 (rz.take (n + 1)) = clr1 (clr O1 (rz.take n)) rz[n] := by
      unfold clr
      rw [tk, List.foldl_append]
      rfl
    have hil : i < σ'.length := by rw [hl, hs.len]; exact hi
    have hsi : (σ'.set i (some xv))[i]? = some (some xv) := by rw [List.getElem?_set_self hil]
    have hl2 : (σ'.set i (some xv)).length = Γ.length := by rw [List.length_set, hl, hs.len]
    have hk2 : ∀ k, k ≠ i → (σ'.set i (some xv))[k]? = σ[k]? := fun k hk' => by rw [List.getElem?_set_ne (Ne.symm hk')]; exact hk k hk'
    show uSs X _ _ (σ'.set i (some xv)) H3
    refine toSs (pss_one (ps_if (ptu c) (pssu _) (pssu _))) ?_
    -- the test, all that is there known
    have after : ∀ {t : Bool} {L4 : Lg} {O4 : Ow} {H4 : Hp}, (L1.all H3).le L4 → R X.K L4 O4 H4 → R X.K L1 (clr O1 (rz.take n)) H4 ∧ H4 g = some (.lst vs) := fun {t L4 O4 H4} e4 r4 => ⟨hr2.back e4 r4, r4.hp g _ (e4.hp g _ (by
      show (if (L1.bx g).isSome = true then none else H3 g) = _
      rw [nbg]
      exact hgv))⟩
    generalize hx : rz[n] = xr at hd hmem tk tc
    obtain ⟨o, r⟩ := xr
    cases o with
    | none =>
      have hd' : D.tup r = d := hd
      subst hd'
      refine ht2 r _ (L1.all H3) H3 (only_sl hl2 hsi (is.mono hr2.le_all)) hr2.all _ fun t O4 L4 H4 h4 e4 r4 => ?_
      subst h4
      obtain ⟨ra, ga⟩ := after (t := false) e4 r4
      refine iteF ?_
      refine toSs pss_nil ?_
      exact ⟨by rw [List.length_set]; exact hl, hk2, by rw [tc]; exact ra, ga⟩
    | some a =>
      have hd' : D.own a = d := hd
      subst hd'
      obtain rfl := is.own'
      obtain ⟨hoa, hfl⟩ := hz _ hmem a rfl
      have nga : g ≠ a := fun e => hng _ hmem (by rw [e])
      obtain ⟨es, he, hef⟩ := clr_at (rz.take n) hoa hfl
      refine ht1 es _ (L1.all H3) H3 (only_sl hl2 hsi (by
        obtain ⟨ws, w1, w2⟩ := own_lst hr2 he
        exact .lst (hr2.all_at he w1) (w2.mono hr2.le_all))) hr2.all _ fun t O4 L4 H4 h4 e4 r4 => ?_
      subst h4
      obtain ⟨ra, ga⟩ := after (t := true) e4 r4
      refine iteT ?_
      refine toSs (pss_one (ps_expr (pu cl) hsw)) ?_
      refine hcl a es _ put_same _ (allBut L1 H4 a) H4 (only_sl hl2 hsi (.own a)) (ra.allBut he hef) _ fun v6 d6 O6 L6 H6 h6 e6 i6 r6 => ?_
      subst h6
      exact ⟨by rw [List.length_set]; exact hl, hk2, by rw [tc]; exact ra.cleared he e6 r6 put_same, allBut_keep r6 e6 nbg nga ga⟩
  · rintro σ' H' ⟨hl, hk, hr2, _⟩
    rw [hlen, List.take_length] at hr2
    refine q.nx _ _ _ _ _ h e1 ⟨by rw [List.length_set, hl, hs.len], fun k d hd => ?_⟩ hr2
    by_cases e : i = k
    · subst e
      rw [List.getElem?_set_self hi] at hd
      cases hd
    · rw [List.getElem?_set_ne e] at hd
      obtain ⟨v, e2, e3⟩ := hs.at_ k d hd
      exact ⟨v, (hk k (Ne.symm e)).trans e2, e3.mono e1⟩
end
end DL
/-! DL, part b: a tuple backwards -/
namespace DL
open L2 PySem
open PySem.Spec PyProof.Rows
section
variable {prog : Program} {w : World} {M : Model} {A
    : Around} {E : Value → Shared → Prop} {s : Shared}
theorem rev_applied {sl : Addr} {u : Tok} {n : Nat} {Q : Int × Int × Nat → Shared → Prop} (h : s.heap.IsSliceOf sl .none .none (.int (-1) u)) (hq : Q ((n : Int) - 1, -1, n) s) : wpAny (model prog w) A (Builtin.Slice.sliceApplied (.ref sl) (pure (n : Int))) Q E s := by
  obtain ⟨o, h1, h2, h3⟩ := h
  unfold Builtin.Slice.sliceApplied
  have f : wpAny (model prog w) A (Builtin.Slice.sliceFields (.ref sl)) (fun a s' => a = (.none, .none, .int (-1) u) ∧ s' = s) E s := by
    unfold Builtin.Slice.sliceFields
    exact wpAny_bind (wpAny_field h1 h3 rfl (wpAny_bind (wpAny_field h1 h3 rfl (wpAny_bind (wpAny_field h1 h3 rfl (wpAny_pure ⟨rfl, rfl⟩))))))
  refine wpAny_bind (wpAny_mono f (fun a s' ha => ?_) fun _ _ z => z)
  obtain ⟨rfl, rfl⟩ := ha
  dsimp only
  refine wpAny_bind (slicePart_int ?_)
  refine wpAny_bind (slicePart_none
      ?_)
  refine wpAny_bind (slicePart_none
      ?_)
  refine wpAny_bind (wpAny_pure
      ?_)
  have e : Builtin.Slice.slicePlaces ((n : Int) - 1) (-1) (-1) = n := by
    unfold
        Builtin.Slice.slicePlaces
    rw [if_neg (by decide)]
    simp only [Int.neg_neg, Int.ediv_one]
    split <;> omega
  have g : (((n : Int) - 1, (-1 : Int), Builtin.Slice.slicePlaces ((n : Int) - 1) (-1) (-1)) : Int × Int × Nat) = ((n : Int) - 1, -1, n) := by rw [e]
  show wpAny _ _ (pure ((n : Int) - 1, (-1 : Int), Builtin.Slice.slicePlaces ((n : Int) - 1) (-1) (-1))) _ _ _
  rw [g]
  exact wpAny_pure hq
theorem tup_rev {t sl : Addr} {items : Array Value} {u : Tok} {Q : Value → Shared → Prop} (ht : IsTup s.heap t items) (hs : s.heap.IsSliceOf sl .none .none (.int (-1) u)) (hz : items.size ≤ sizeLine)
    (hq : Q (.ref s.heap.objs.size) { heap := s.heap.push { cls := .type "tuple", data := .seq items.toList.reverse.toArray }, gens := s.gens, drawn := s.drawn, toks := s.toks, os := s.os }) : wpAny (model prog w) A (getItem (.ref t) (.ref sl)) Q E s := by
  have hty : s.TypeIs (.ref t) "tuple" := by
    obtain ⟨o, h1, h2, _⟩ := ht
    exact ⟨o, h1, h2⟩
  refine wpAny_getItem_slot hty rfl F.slot_tuple_getitem (wpAny_call (codeAny_call_builtin F.slot_tuple_getitem.plain F.entry_tuple_getitem (F.slot_tuple_getitem.check _ _ _ _ _ _ _ _ hty (F.args_tuple_getitem_2 _ _) ?_)))
  unfold Builtin.«tuple.__getitem__»
  refine wpAny_bind (m := slotArgs "__getitem__" 1 _) (wpAny_pure ?_)
  dsimp only
  refine wpAny_bind (tupleItemsOf_
      ht ?_)
  obtain ⟨o, h1, h2, h3⟩ := id hs
  refine wpAny_bind (wpAny_typeOf_ref h1 ?_)
  rw [h2]
  refine wpAny_bind (rev_applied hs ?_)
  dsimp only
  have c1 : (((items.size : Int) - 1 == 0 && (-1 : Int) == 1 && items.size == items.size) = true) = False := by simp
  rw [if_neg (by rw [c1]; exact id)]
  have er : (List.filterMap (fun k : Nat => items[((items.size : Int) - 1 + (k : Int) * -1).toNat]?) (List.range items.size)) = items.toList.reverse := by
    have z := PySem.W.krv_pick items
    rw [slicePick.eq_1, PySem.W.krv_bounds, PySem.W.krv_sliceRange] at z
    have z2 := congrArg Array.toList z
    simp only [List.filterMap_map] at z2
    rw [← z2]
    congr 1
    funext k
    show _ = items[items.size - 1 - k]?
    congr 1
    omega
  rw [er]
  refine wpAny_bind ?_
  unfold
      Builtin.Tuple.tupleExact
  rw [newObj.eq_1, if_neg (by rw [List.size_toArray, List.length_reverse, Array.length_toList]; omega)]
  refine wpAny_newObjAsIs_type ?_
  show wpAny _ _ (pure _) _ _ _
  exact wpAny_pure hq
end
theorem vals_rev : ∀ {vs : List V} {us : List Value}, Vals vs us → Vals vs.reverse us.reverse
  | _, _, .nil => .nil
  | _, _, .cons a t => by
    rw [List.reverse_cons,
        List.reverse_cons]
    exact vals_app (vals_rev t) (.cons a .nil)
section
variable {X : Cx} {Γ : Sg} {O : Ow} {k : KD}
theorem we_revT {e : Expr} {kk : Nat} {p1 p2 p3 pos : Pos} (hlt : ∀ o r, letTemporaryGo e o r = pure ()) (h : WE X e Γ O fun d O1 => ∃ ds, d = .tup ds ∧ k (.tup ds.reverse) O1) : WE X (.Subscript e (.Slice none none (some (.UnaryOp .USub (.Constant (.int 1) kk p1) p2)) p3) pos) Γ O k := fun σ L H hs hr Q q pins s I => by
  refine Subscript_ (thn (h σ L H hs hr (fun v H1 => ∃ ds O1 L1, k (.tup ds.reverse) O1 ∧ L.le L1 ∧ Is X.K L1 v (.tup ds) ∧ R X.K L1 O1 H1) (fun v d O1 L1 H1 ⟨ds, hd, hk⟩ a b c => ⟨ds, O1, L1, hk, a, by rw [← hd]; exact b, c⟩) pins s I) fun uv s1 ⟨v, H1, I1, rv, ds, O1, L1, hk, le1, is1, r1⟩ => ?_)
  obtain ⟨a, vs, rfl, st, tt⟩ := is1.tup'
  obtain rfl : uv = Value.ref a := rv
  refine wpAny_Slice (wpAny_evalPart_none (wpAny_evalPart_none ?_))
  have m1 : WE X (.UnaryOp .USub (.Constant (.int 1) kk p1) p2) Γ O1 fun d O2 => d = .int (-1) ∧ O2 = O1 := we_un (we_int (wu_neg ⟨rfl, rfl⟩))
  refine thn (m1 σ L1 H1 (hs.mono le1) r1 (fun v H2 => v = .int (-1) ∧ ∃ L2, L1.le L2 ∧ R X.K L2 O1 H2) (fun v d O2 L2 H2 ⟨hd, ho⟩ a b c => ⟨(by subst hd; exact b.int'), L2, a, by rw [← ho]; exact c⟩) pins s1 I1) fun ust s3 ⟨v3, H3, I3, rv3, ev, M3, le3, r3⟩ => ?_
  subst ev
  obtain ⟨tk3, rfl⟩ := rv3
  obtain ⟨hp, g, dr, tk, os⟩ := s3
  obtain ⟨its, hv, hT, hz⟩ := I3.tuple (r3.st (le_st le3 st))
  let h4 := hp.push { cls := .type "slice", data := .fields #[.none, .none, .int (-1) tk3] }
  have old : ∀ b o, hp.get? b = some o → h4.get? b = some o := fun b o z => Heap.get?_push_of_some _ z
  have hT4 : IsTup h4 a its.toArray := by
    obtain ⟨o, e1, e2, e3⟩ := hT
    exact ⟨o, old _ _ e1, e2, e3⟩
  have hS4 : h4.IsSliceOf hp.objs.size .none .none (.int (-1) tk3) := ⟨_, Heap.get?_push_size _ rfl, rfl, rfl⟩
  have sz : its.toArray.size ≤ sizeLine := by rw [List.size_toArray, ← hv.length]; exact hz
  refine subscriptTail_builtin (T := "tuple") (id := "tuple.__getitem__") ?_ F.slot_tuple_getitem.lookup ?_ rfl (fun _ => hlt _ _)
  · obtain ⟨o, e1, e2, _⟩ := hT4
    exact ⟨o, e1, e2⟩
  refine tup_rev (s := ⟨h4, g, dr, tk, os⟩) hT4 hS4 sz ?_
  have e4 : h4.objs.size = hp.objs.size + 1 := Heap.size_push _ _
  have far : hp.objs.size ≤ h4.objs.size := by rw [e4]; exact Nat.le_succ _
  have old2 : ∀ b o, hp.get? b = some o → (h4.push { cls := .type "tuple", data := .seq its.toArray.toList.reverse.toArray }).get? b = some o := fun b o z => Heap.get?_push_of_some _ (old b o z)
  have ok : ObjOk X.prog X.w (upd H3 h4.objs.size (.tup vs.reverse)) (h4.push { cls := .type "tuple", data := .seq its.toArray.toList.reverse.toArray }) h4.objs.size (.tup vs.reverse) := by
    rw [ObjOk]
    refine ⟨by rw [List.length_reverse]; exact hz, its.reverse, vals_rev hv, ⟨_, Heap.get?_push_size _ rfl, rfl, 0, rfl⟩⟩
  have J := I3.laid (t' := tk) old2 far ok
  have free : H3 h4.objs.size = none := I3.hok.fresh far
  obtain ⟨L5, le5, is5, r5⟩ := r3.newT free (isL_rev (tt.mono le3))
  exact ⟨.ref h4.objs.size, _, J, rfl, q _ _ _ _ _ hk ((le1.trans le3).trans le5) is5 r5⟩
end
end DL
/-! DL, part c: exceptions as values -/
namespace DL
open L2 PySem
open PySem.Spec PyProof.Rows
theorem xo_ok {P : Program} {w : World} {H : Hp} {h : Heap} {a C : Addr} {d : Option Addr} {oe : Obj} (e : h.get? a = some oe) (z : Zc (.ref C) d oe) (v : ∃ vs, oe.data = .fields vs) : ObjOk P w H h a (XO C d a) :=
  ⟨⟨oe, e, z, v⟩, ⟨oe, e⟩, fun _ _ ⟨o, q, r⟩ k => ⟨o, k o q, r⟩⟩
theorem xo_at {P : Program} {w : World} {H : Hp} {h : Heap} {a C : Addr} {d : Option Addr} (hok : HOk P w H h) (he : H a = some (XO C d a)) : ∃ oe : Obj, h.get? a = some oe ∧ Zc (.ref C) d oe ∧ ∃ vs, oe.data = .fields vs := by
  have x : ObjOk P w H h a (.ext fun h => ∃ oe : Obj, h.get? a = some oe ∧ Zc (.ref C) d oe ∧ ∃ vs, oe.data = .fields vs) := hok a _ he
  exact x.1
section
variable {X : Cx} {Γ : Sg} {O : Ow} {k : KD}
/-- x(e), x over any base, as a value -/
def tMkV (C : Addr) (f : Str) (ta : TA) : TE := fun σ H Q => ta σ H fun vs H1 => ∃ v, vs = [v] ∧ ∀ a d, H1 a = none → H1 d = none → d ≠ a → Q (.ref a) (upd (upd H1 d (.xd [(f, v)])) a (XO C (some d) a))
theorem pe_mkV {x f : Str} {C : Addr} {j : Nat} {e : Expr} {p cpos : Pos} {ta : TA} (F : KxG X x C f) (hr : Room (j + 1) X.A) (he : starEach [e] X.env = (false, eval e X.env) :: starEach [] X.env) (hpl : (backTo cpos (starEach [] X.env)).any (·.1) = false) (ha : PA X [e] ta) :
    PE X (.Call (.Name x p) [e] [] cpos) (tMkV C f ta) := by
  refine ⟨fun pins s
      σ H Q I h => ?_⟩
  obtain ⟨qual, st, T⟩ := F.cl
  refine wpAny_Call_Name_kw (ld_glob I F.gl F.mg ?_ F.db)
  refine PySem.W.callWith_K (h₀ := X.base) I.ok.mod.kin T.kC (thn (ha.run cpos pins s σ H _ I h) ?_) he hpl
  rintro us ⟨hp, g, dr, tk, os⟩ ⟨vs, H1, I1, r1, v, rfl, q1⟩
  refine ⟨I1.kIn, ?_⟩
  cases r1 with
  | cons rv rn =>
    rename_i v' us'
    cases rn
    show wpAny _ _ (call
        (.ref C) [v']) _ _ _
    refine wpAny_call (exc_call T I1.kIn I1.nolimit (by have := hr.dp; omega) fun h' tk' a d M => ?_)
    obtain ⟨t1, hoe⟩ := M.obj
    obtain ⟨G, g1, g2⟩ := restrict h' fun b => decide (b ≠ a)
    have gk : ∀ b, b ≠ a → G.get? b = h'.get? b := fun b hb => g1 b (decide_eq_true hb)
    have ga : G.get? a = none := g2 a (by simp)
    have old : ∀ b o, hp.get? b = some o → G.get? b = some o := fun b o z => (gk b (Nat.ne_of_lt (Nat.lt_of_lt_of_le (Heap.lt_size z) M.new))).trans (M.keep b o z)
    have ob : ObjOk X.prog X.w (upd H1 d (.xd [(f, v)])) G d (.xd [(f, v)]) := ⟨_, M.ns.at (fun o z => (gk d M.ne).trans z), fun y => rel_one rv f y⟩
    have J : L2.Inv X pins σ (upd H1 d (.xd [(f, v)])) ⟨G, g, dr, tk', os⟩ := I1.laid (t' := tk') old M.big ob
    have na : H1 a = none := I1.hok.fresh M.new
    have nd : upd H1 d (.xd [(f, v)]) a = none := by rw [upd_ne (Ne.symm M.ne)]; exact na
    have back : ∀ b o, G.get? b = some o → h'.get? b = some o := fun b o z => by
      by_cases hb : b = a
      · rw [hb, ga] at z; cases z
      · exact (gk b hb).symm.trans z
    have J2 := J.laidN (t' := tk') (h' := h') (a := a) (o := XO C (some d) a) back ga nd (xo_ok hoe ⟨rfl, rfl⟩ ⟨_, rfl⟩)
    exact ⟨.ref a, _, J2, rfl, q1 a d na (I1.hok.fresh M.big) M.ne⟩
theorem we_mkG {x f : Str} {C : Addr} {j : Nat} {e : Expr} {p cpos : Pos} (F : KxG X x C f) (hr : Room (j + 1) X.A) (he : starEach [e] X.env = (false, eval e X.env) :: starEach [] X.env) (hpl : (backTo cpos (starEach [] X.env)).any (·.1) = false)
    (h : WE X e Γ O fun d O1 => ∀ a dd, O1 a = none → k (.exc a dd [(f, d)]) (put O1 a (.xcp C (some dd)))) : WE X (.Call (.Name x p) [e] [] cpos) Γ O k := fun σ L H hs hR Q q => by
  refine toE (pe_mkV F hr he hpl (pau [e])) ?_
  have ha : WA X [e] Γ O fun ds O1 => ∃ d, ds = [d] ∧ ∀ a dd, O1 a = none → k (.exc a dd [(f, d)]) (put O1 a (.xcp C (some dd))) := wa_cons he (h.imp fun d O1 z => wa_nil ⟨d, rfl, z⟩)
  refine ha σ L H hs hR _ fun vs ds O1 L1 H1 h1 e1 i1 r1 => ?_
  obtain ⟨d, rfl, hk⟩ := h1
  obtain ⟨v, rfl, iv⟩ := i1.one'
  refine ⟨v, rfl, fun a dd na nd ne => ?_⟩
  have r2 := r1.new (o := .xd [(f, v)]) nd
  have na2 : upd H1 dd (.xd [(f, v)]) a = none := by rw [upd_ne (Ne.symm ne)]; exact na
  have le := Lg.le_add (o := .xd [(f, v)]) (r1.free nd).1
  have r3 := r2.newOwn (p := a) (o := XO C (some dd) a) (od := .xcp C (some dd)) na2 upd_same
  exact q _ _ _ _ _ (hk a dd (r2.free na2).2.1) (e1.trans le) (.exc upd_same rfl (.cons (iv.mono le) .nil)) r3
/-- x(), a class without its own __init__, as a value -/
theorem we_mk0 {x : Str} {C : Addr} {p cpos : Pos} (F : Ke X x C) (h : ∀ a, O a = none → k (.own a) (put O a (.xcp C none))) : WE X (.Call (.Name x p) [] [] cpos) Γ O k := fun σ L H hs hR Q q => by
  obtain ⟨bmB, B, newId, initId, F1, q1⟩ := F.ex
  have mk : PE X (.Call (.Name x p) [] [] cpos) (fun _ H Q => ∀ a, H a = none → Q (.ref a) (upd H a (XO C none a))) := by
    refine ⟨fun pins s
        σ H Q I h => ?_⟩
    refine wpAny_Call_Name_kw (ld_glob I F.gl F.mg ?_ F.db)
    refine PySem.W.callWith_K0 (first := []) I.kIn F.kp ?_
    show wpAny _ _ (call (.ref C) []) _ _ _
    obtain ⟨bm, N, nm, qn, bs, hdct, sn, sub, ab, col, dd, k0, k1, k2, k3, k5, mN, hC, hN, hni, T⟩ := exc_obj I.kIn q1
    obtain ⟨hp, g,
        d, tk, os⟩ := s
    refine wpAny_call_exc_subT F1 T hC hN hni (fun h' e hm => ?_) (Nat.zero_le _)
    have hn : H e = none := I.hok.gone hm.new
    obtain ⟨t, ht, _,
        _⟩ := hm.there
    exact ⟨.ref e, upd H e (XO C none e), I.laidN hm.keeps hm.new hn (xo_ok ht ⟨rfl, rfl⟩ ⟨_, rfl⟩), rfl, h e hn⟩
  refine toE mk fun a na => ?_
  have r3 := hR.newOwn (p := a) (o := XO C none a) (od := .xcp C none) na upd_same
  exact q _ _ _ _ _ (h a (hR.free na).2.1) (.refl L) (.own a) r3
/-- e.f, e such a value -/
theorem we_xfV {e : Expr} {f : Str} {pos : Pos} (hb : attributeBase e f X.env (eval e X.env) = eval e X.env)
    (h : WE X e Γ O fun x O1 => ∃ (a C dd : Addr) (fds : List (Str × D)) (y : D), x = .exc a dd fds ∧ O1 a = some (.xcp C (some dd)) ∧ XfC X.K C ∧ PySem.W.findIn X.K (.ref C) f = some none ∧ fds.lookup f = some y ∧ k y O1) : WE X (.Attribute e f pos) Γ O k := fun σ L H hs hr Q q => by
  have pf : PE X (.Attribute e f pos) (fun σ H Q => uE X e σ H fun x H1 => ∃ (a C dd : Addr) (fs : List (Str × V)) (v : V), x = .ref a ∧ H1 a = some (XO C (some dd) a) ∧ XfC X.K C ∧ PySem.W.findIn X.K (.ref C) f = some none ∧ H1 dd = some (.xd fs) ∧ fs.lookup f = some v ∧ Q v H1) := by
    refine ⟨fun pins s
        σ H Q I h => ?_⟩
    refine attr_of hb (thn ((pu e).run pins s σ H _ I h) fun u s1 hh => ?_)
    obtain ⟨x, H1, I1, rx, a, C, dd, fs, v, ex, ea, T, hno, ed, l, q⟩ := hh
    subst ex
    obtain rfl : u =
        Value.ref a := rx
    obtain ⟨oe, ha, hz, vs, hd⟩ := xo_at I1.hok ea
    have hx : ObjOk X.prog X.w H1 s1.heap dd (.xd fs) := I1.hok dd _ ed
    obtain ⟨mA, hns, hr⟩ := hx
    obtain ⟨od, ho,
        hl⟩ := lookIn_ns hns
    obtain ⟨u, hu, ru⟩ := RelO.some_of (v := v) (o := mA f) (by rw [← l]; exact hr f)
    have J : PySem.W.InstAt s1.heap a oe C (some od) := ⟨ha, hz.1,
        by unfold PySem.W.notCls; rw [hd] <;> rfl, by rw [hz.2]; exact ho⟩
    exact HandSPX.exc_get I1.kIn J T.ga T.gg T.exC (PySem.W.findObj_own T.hdC hno rfl (by rw [hl,
        hu])) (handed_of ru) ⟨v, H1, I1.tok _, ru, q⟩
  refine toE pf ?_
  refine h σ L H hs hr _ fun v x O1 L1 H1 h1 e1 i1 r1 => ?_
  obtain ⟨a, C, dd, fds, y, ex, eo, T, hno, hl, h2⟩ := h1
  subst ex
  obtain ⟨fs, rfl, hd, e2, e3⟩ := i1.exc'
  obtain ⟨w, g1, g2⟩ := (lookup_is e2 e3).1 y hl
  exact ⟨a, C, dd, fs, w, rfl, (r1.ow _ _ eo).2, T, hno, r1.hp _ _ hd, g1, q _ _ _ _ _ h2 e1 g2 r1⟩
/-- isinstance(e, c), e such a value -/
inductive XV (O : Ow) (C : Addr) : D → Prop
  | fld {a dd : Addr} {fds : List (Str × D)} : O a = some (.xcp C (some dd)) → XV O C (.exc a dd fds)
  | bare {a : Addr} : O a = some (.xcp C none) → XV O C (.own a)
theorem wc_isV {C : Addr} {x c : D} {cv : Value} {b : Bool} (T : ExcC X.K C) (hx : XV O C x) (hc : (∃ P, c = .own P ∧ cv = .ref P) ∨ ∃ U, c = .ty U ∧ cv = .type U) (hk : PySem.W.kitOne X.K (.ref C) cv = some b)
    (h : k (.bl b) O) : WC X (.builtin "isinstance") [x, c] O k := fun vs L H is hr Q q => by
  obtain ⟨v, u, rfl, i1, i2⟩ := is.two'
  have fin : Q (.bl b) H := q _ _ _ _ _ h (.refl L) (.bl _) hr
  have hu : ∀ u', RelV u u' → u' = cv := by
    rcases hc with ⟨P, rfl, rfl⟩ | ⟨U, rfl, rfl⟩
    · obtain rfl := i2.own'
      exact fun u' z => z
    · obtain rfl := i2.ty'
      exact fun u' z => z
  have hcn : ∀ z : Addr × Nat, True := fun _ => trivial
  have key : ∀ (a : Addr) (d : Option Addr), v = .ref a → O a = some (.xcp C d) → (∀ dd, d = some dd → ∃ fs, H dd = some (.xd fs)) →
      ∀ pins (s : Shared) σ us, L2.Inv X pins σ H s → Vals [V.ref a, u] us → wpAny (model X.prog X.w) X.A (call (.builtin "isinstance") us) (EP X pins σ Q) X.xe s := by
    intro a d ev ho hd pins s σ us I rx
    cases rx with
    | cons r1 t1 =>
      cases t1 with
      | cons r2 t2 =>
        cases t2
        cases r1
        rw [hu _ r2]
        obtain ⟨oe, ha, hz, ws, hws⟩ := xo_at I.hok (hr.ow _ _ ho).2
        have hcl : (PySem.W.clsIn X.K C).isSome = true := by
          obtain ⟨cd, hc, _⟩ := PySem.W.any_some T.hd
          rw [hc]; rfl
        have fin2 : ∀ od, PySem.W.InstAt s.heap a oe C od → wpAny (model X.prog X.w) X.A (call (.builtin "isinstance") [.ref a, cv]) (EP X pins σ Q) X.xe s := fun od J =>
          PySem.W.kia_one (PySem.W.kitx_exc hcl T.hg T.hk T.hs T.ha T.hn T.ht T.hm) I.kIn J hk (by rcases hc with ⟨P, _, rfl⟩ | ⟨U, _, rfl⟩ <;> exact fun z => nomatch z) fun tk => ⟨.bl b, H, I.kept (t' := tk) fun _ _ z => z, rfl, fin⟩
        cases d with
        | none => exact fin2 none ⟨ha, hz.1, by unfold PySem.W.notCls; rw [hws] <;> rfl, by rw [hz.2]; exact trivial⟩
        | some dd =>
          obtain ⟨fs, hfs⟩ := hd dd rfl
          have hx : ObjOk X.prog X.w H s.heap dd (.xd fs) := I.hok dd _ hfs
          obtain ⟨mA, hns, _⟩ := hx
          obtain ⟨od, ho2, _⟩ := lookIn_ns hns
          exact fin2 (some od) ⟨ha, hz.1, by unfold PySem.W.notCls; rw [hws] <;> rfl, by rw [hz.2]; exact ho2⟩
  cases hx with
  | fld ho =>
    obtain ⟨fs, rfl, hd, _, _⟩ := i1.exc'
    intro pins s σ us I rx
    exact key _ _ rfl ho (fun dd e => by cases e; exact ⟨_, hr.hp _ _ hd⟩) pins s σ us I rx
  | bare ho =>
    obtain rfl := i1.own'
    intro pins s σ us I rx
    exact key _ _ rfl ho (fun dd e => by cases e) pins s σ us I rx
end
/-! ### lists that hold owned lists, seen frozen -/
mutual
inductive FzE (O : Ow) : D → D → Prop
  | same (d : D) : FzE O d d
  | own {p : Addr} {ds es : List D} : O p = some (.lst ds) → FzEs O ds es → FzE O (.own p) (.lst es)
  | lst {ds es : List D} : FzEs O ds es → FzE O (.lst ds) (.lst es)
inductive FzEs (O : Ow) : List D → List D → Prop
  | nil : FzEs O [] []
  | cons {d e : D} {ds es : List D} : FzE O d e → FzEs O ds es → FzEs O (d :: ds) (e :: es)
end
section
variable {K : PySem.W.Frag} {L L' : Lg} {O O' : Ow} {H H' : Hp}
mutual
theorem FzE.is (r : R K L O H) : ∀ {v : V} {d e : D}, FzE O d e → Is K L v d → Is K (L.all H) v e
  | _, _, _, .same _, i => i.mono r.le_all
  | v, _, _, .own (p := p) (ds := ds) (es := es) ho f, i => by
    obtain rfl := i.own'
    obtain ⟨vs, e1, i1⟩ := own_lst r ho
    exact .lst (r.all_at ho e1) (FzEs.is r f i1)
  | _, _, _, .lst f, .lst h i => .lst (r.le_all.hp _ _ h) (FzEs.is r f i)
theorem FzEs.is (r : R K L O H) : ∀ {vs : List V} {ds es : List D}, FzEs O ds es → IsL K L vs ds → IsL K (L.all H) vs es
  | _, _, _, .nil, .nil => .nil
  | _, _, _, .cons f fs, .cons i is => .cons (FzE.is r f i) (FzEs.is r fs is)
end
end
section
variable {X : Cx} {Γ : Sg} {O : Ow} {k : KD}
theorem wo_fzE {f : Value → Value → Sem Value} {x y x' y' : D} (hx : FzE O x x') (hy : FzE O y y') (h : WO X f x' y' (fun _ => none) fun d _ => d.flat = true ∧ k d O) : WO X f x y O k := fun vx vy L H ix iy hR Q q =>
  h vx vy (L.all H) H (hx.is hR ix) (hy.is hR iy) hR.all Q fun v d O' L' H' ⟨fl, hk⟩ le i r => q v d O L H' hk (.refl L) (is_flat fl i) (R.back hR le r)
end
/-! ### an exception whose __init__ is walked, as a value -/
section
variable {X : Cx} {Γ : Sg} {O : Ow} {k : KD}
theorem pe_oexV {CX : CXT} {x : Str} {C fI : Addr} {j : Nat} {fd : FuncData} {ps : List Str} {sp : Sp} {e : Expr} {es : List Expr} {ta : TA} {p pos : Pos} (T : OexC X.K C) (iC : PySem.W.findIn X.K (.ref C) "__init__" = some (some (.ref fI))) (tI : PySem.W.typeIn X.K (.ref fI) = some (.type "function"))
    (F1 : FnOk X.prog X.w X.K X.mg X.base CX j fI fd ps sp) (hr : Room (j + 1) X.A) (hb : Binds X.K fd ps []) (hx : Passes CX X (fun _ _ _ => False)) (hg : Gl X x) (hm : X.mg x = some (.ref C)) (ha : PA X (e :: es) ta)
    (hdb : (x == ("__debug__" : Str)) = false) (he : starEach (e :: es) X.env = (false, eval e X.env) :: starEach es X.env) (hpl : (backTo pos (starEach es X.env)).any (·.1) = false) :
    PE X (.Call (.Name x p) (e :: es) [] pos) (fun σ H Q => ta σ H fun vs H1 => vs.length ≤ 1000 ∧ ∀ a, H1 a = none → sp (.ref a :: vs) (upd H1 a (exo a C none))
      (fun v H2 => v = .non ∧ ∃ (d : Addr) (fs : List (Str × V)), H2 a = some (exo a C (some d)) ∧ H2 d = some (exd d fs) ∧ d ≠ a ∧ Q (.ref a) (upd (upd H2 d (.xd fs)) a (XO C (some d) a))) (fun _ _ _ => False)) := by
  refine ⟨fun pins s
      σ H Q I h => ?_⟩
  obtain ⟨nm, q, N, bs, bm, sn, sub, ab, col,
      dd, k0, k1, k2, k3, k5, hC, hbm⟩ := T.cls
  refine wpAny_Call_Name_kw (ld_glob
      I hg hm ?_ hdb)
  refine PySem.W.callWith_K (h₀ := X.base) I.ok.mod.kin T.kC (thn (ha.run pos pins s σ H _ I h) fun us s1 ⟨vs,
      H1, I1, r1, hz, q1⟩ => ⟨I1.kIn, ?_⟩) he hpl
  show wpAny _ _ (call
      (.ref C) us) _ _ _
  obtain ⟨hp, g,
      dr, tk, os⟩ := s1
  have hsz : hp.objs.size ≤
      hp.objs.size + 1 := Nat.le_succ _
  have hn : H1 (hp.objs.size +
      1) = none := I1.hok.fresh hsz
  have hq := q1 (hp.objs.size
      + 1) hn
  have kk : ∀ b o, hp.get? b = some o → ((hp.push (PySem.W.kdv_tup us)).push (PySem.HandSPX.excO C
      hp.objs.size)).get? b = some o := fun b o e => Heap.get?_push_of_some _ (Heap.get?_push_of_some _ e)
  have hget : ((hp.push (PySem.W.kdv_tup us)).push (PySem.HandSPX.excO C
      hp.objs.size)).get? (hp.objs.size + 1) = some (PySem.HandSPX.excO C hp.objs.size) := by heap_get
  have I2 : L2.Inv X pins σ (upd H1 (hp.objs.size + 1) (exo (hp.objs.size + 1) C none)) ⟨(hp.push (PySem.W.kdv_tup us)).push (PySem.HandSPX.excO C hp.objs.size), g, dr, tk, os⟩ :=
    I1.laid (t' := tk) (a := hp.objs.size + 1) (o := exo (hp.objs.size + 1) C none) (h' :=
        (hp.push (PySem.W.kdv_tup us)).push (PySem.HandSPX.excO C hp.objs.size)) kk hsz (exo_ok hget)
  have r2 : Vals (V.ref (hp.objs.size + 1) ::
      vs) (Value.ref (hp.objs.size + 1) :: us) := .cons rfl r1
  have hl : (Value.ref (hp.objs.size + 1)
      :: us ++ []).length = ps.length := by
    rw [List.append_nil]
    have e := r2.length
    rw [F1.len _ _ _ _ hq] at e
    exact e.symm
  have hus : us.length
      ≤ sizeLine := by
    rw [← Paired.length r1,
        sizeLine_eq]
    omega
  refine wpAny_call (PySem.HandSPX.call_own F.excBase_ValueError (fun Y => PySem.HandSPX.refsVE_contains Y
      bm hbm) (I1.kIn _ _ hC) (PySem.W.looks_findIn I1.kIn iC) (fun self => PySem.W.bind_fn I1.kIn self tI) hus
    (codeAny_mono (F1.run _ X.stack _ _ ⟨Value.ref (hp.objs.size + 1) :: us, []⟩ (Value.ref (hp.objs.size + 1) :: us ++ []) _ _ (fun _ _ _ => False) (hr.make C us []) (I2.env0.make C us []) (hb _ (Value.ref (hp.objs.size + 1) :: us) I2.kIn hl) (by rw [List.append_nil]; exact r2) hq) fun r s' hq' => ?_))
  cases r with
  | error er => exact hx _ _ _ _ er s' I2 hq'
  | ok fl =>
    cases fl with
    | ret u =>
      obtain ⟨v, H2, os2, bare2, un2, hok2, rv, ev, d, fs, ea, ed, ne, q2⟩ := hq'
      subst ev
      obtain ⟨h2, g2,
          d2, t2, os'⟩ := s'
      obtain ⟨t0, hoe⟩ := exo_at hok2 ea
      obtain ⟨mA, hns, rel⟩ := exd_at hok2 ed
      have I3 : L2.Inv X pins σ H2 ⟨h2, g2, d2, t2, os'⟩ := I2.call' (ch := []) os2 un2 hok2 bare2 (fun b z => absurd z (by simp))
      have hod : ∃ u, h2.get? d = some u := by
        obtain ⟨o, es, ep, e1, _⟩ := hns
        exact ⟨o, e1⟩
      have I4 := I3.write (t' := t2) (x := d) (e := d) (o := .xd fs) (h' := h2) (by rw [ed]; exact True.intro) (.inl rfl) (fun _ _ _ z => z) hod ⟨mA, hns, rel⟩
      have I5 := I4.write (t' := t2) (x := hp.objs.size + 1) (e := hp.objs.size + 1) (o := XO C (some d) (hp.objs.size + 1)) (h' := h2) (by rw [upd_ne (Ne.symm ne), ea]; exact True.intro) (.inl rfl) (fun _ _ _ z => z) ⟨_, hoe⟩ (xo_ok hoe ⟨rfl, rfl⟩ ⟨_, rfl⟩)
      exact ⟨rv, ⟨.ref (hp.objs.size + 1), _, I5, rfl, q2⟩⟩
    | next => exact
          False.elim hq'
    | brk => exact False.elim hq'
    | cont => exact
          False.elim hq'
/-- what __init__(self, f, g) does -/
def spXc2 (C : Addr) (f g : Str) : Sp := fun vs H Q _ => ∃ (a : Addr) (y z : V), vs = [.ref a, y, z] ∧ H a = some (exo a C none) ∧ ∀ dx, H dx = none → dx ≠ a → Q .non (upd (upd (upd H dx (exd dx [(f, y)])) a (exo a C (some dx))) dx (exd dx [(g, z), (f, y)]))
/-- the exception class x at C, whose __init__ keeps two arguments in f and g -/
structure Kx2 (X : Cx) (x : Str) (C : Addr) (f g : Str) (j : Nat) : Prop where
  cl : OexC X.K C
  ex : ∃ (fI : Addr) (fd : FuncData) (ps : List Str), PySem.W.findIn X.K (.ref C) "__init__" = some (some (.ref fI)) ∧ PySem.W.typeIn X.K (.ref fI) = some (.type "function") ∧ FnOk X.prog X.w X.K X.mg X.base CX0 j fI fd ps (spXc2 C f g) ∧ Binds X.K fd ps []
  mg : X.mg x = some (.ref C)
  gl : Gl X x
  db : (x == ("__debug__" : Str)) = false
theorem we_mk2 {x f g : Str} {C : Addr} {j : Nat} {e e2 : Expr} {p cpos : Pos} (F : Kx2 X x C f g j) (hr : Room (j + 1) X.A) (he : starEach [e, e2] X.env = (false, eval e X.env) :: starEach [e2] X.env) (hpl : (backTo cpos (starEach [e2] X.env)).any (·.1) = false)
    (h : WA X [e, e2] Γ O fun ds O1 => ∃ d d2, ds = [d, d2] ∧ ∀ a dd, O1 a = none → k (.exc a dd [(g, d2), (f, d)]) (put O1 a (.xcp C (some dd)))) : WE X (.Call (.Name x p) [e, e2] [] cpos) Γ O k := fun σ L H hs hR Q q => by
  obtain ⟨fI, fd, ps, iC, tI, F1, hb⟩ := F.ex
  refine toE (pe_oexV F.cl iC tI F1 hr hb pass0 F.gl F.mg (pau [e, e2]) F.db he hpl) ?_
  refine h σ L H hs hR _ fun vs ds O1 L1 H1 h1 e1 i1 r1 => ?_
  obtain ⟨d, d2, rfl, hk⟩ := h1
  obtain ⟨v, u, rfl, iv, iu⟩ := i1.two'
  refine ⟨by show 2 ≤ 1000; decide, fun a ha1 => ⟨a, v, u, rfl, upd_same, fun dx hdx hne => ?_⟩⟩
  have h1dx : H1 dx = none := by rw [upd_ne hne] at hdx; exact hdx
  have hna : a ≠ dx := Ne.symm hne
  refine ⟨rfl, dx, [(g, u), (f, v)], ?_, upd_same, hne, ?_⟩
  · rw [upd_ne hna]; exact upd_same
  have eH : upd (upd (upd (upd (upd (upd H1 a (exo a C none)) dx (exd dx [(f, v)])) a (exo a C (some dx))) dx (exd dx [(g, u), (f, v)])) dx (.xd [(g, u), (f, v)])) a (XO C (some dx) a) = upd (upd H1 dx (.xd [(g, u), (f, v)])) a (XO C (some dx) a) := by
    funext b
    by_cases c2 : b = a
    · subst c2; rw [upd_same, upd_same]
    · rw [upd_ne c2, upd_ne c2]
      by_cases c1 : b = dx
      · subst c1; rw [upd_same, upd_same]
      · rw [upd_ne c1, upd_ne c1, upd_ne c1, upd_ne c2, upd_ne c1, upd_ne c2]
  rw [eH]
  have r2 := r1.new (o := .xd [(g, u), (f, v)]) h1dx
  have na2 : upd H1 dx (.xd [(g, u), (f, v)]) a = none := by rw [upd_ne hna]; exact ha1
  have le := Lg.le_add (o := .xd [(g, u), (f, v)]) (r1.free h1dx).1
  have r3 := r2.newOwn (p := a) (o := XO C (some dx) a) (od := .xcp C (some dx)) na2 upd_same
  exact q _ _ _ _ _ (hk a dx (r2.free na2).2.1) (e1.trans le) (.exc upd_same rfl (.cons (iu.mono le) (.cons (iv.mono le) .nil))) r3
end
/-! ### what is owned, listed -/
def Has (O : Ow) (l : List (Addr × OD)) : Prop := ∀ x ∈ l, O x.1 = some x.2
theorem Has.get {O : Ow} {l : List (Addr × OD)} {a : Addr} {v : OD} (h : Has O l) (m : (a, v) ∈ l) : O a = some v := h _ m
theorem has_nil {O : Ow} : Has O [] := fun x h => by cases h
theorem has_put {O : Ow} {l : List (Addr × OD)} {a : Addr} {v : OD} (h : Has O l) (n : O a = none) : Has (put O a v) ((a, v) :: l) := fun x hx => by
  rcases List.mem_cons.mp
      hx with rfl | hx
  · exact put_same
  · have e := h x hx
    rw [put_ne (fun z => by rw [z, n] at e; cases e)]
    exact e
theorem has_set {O : Ow} {l : List (Addr × OD)} {p : Addr} {ds es : List D} (h : Has O (l ++ [(p, .lst ds)])) (hx : ∀ x ∈ l, ∃ C d, x.2 = .xcp C d) : Has (put O p (.lst es)) (l ++ [(p, .lst es)]) := fun x hm => by
  rcases List.mem_append.mp
      hm with hm | hm
  · obtain ⟨C, d, e⟩ := hx x hm
    have g := h x (List.mem_append_left _ hm)
    have g2 : O p = some (.lst ds) := h (p, .lst ds) (List.mem_append_right _ List.mem_cons_self)
    rw [put_ne (fun z => by rw [z, g2, e] at g; cases g)]
    exact g
  · rw [List.mem_singleton.mp
        hm]
    exact put_same
section
variable {X : Cx} {Γ : Sg} {O : Ow} {k : KD}
theorem we_mkH {x f : Str} {C : Addr} {j : Nat} {e : Expr} {p cpos : Pos} (F : KxG X x C f) (hr : Room (j + 1) X.A) (he : starEach [e] X.env = (false, eval e X.env) :: starEach [] X.env) (hpl : (backTo cpos (starEach [] X.env)).any (·.1) = false)
    (h : WE X e Γ O fun d O1 => ∃ l, Has O1 l ∧ ∀ a dd O2, Has O2 ((a, .xcp C (some dd)) :: l) → k (.exc a dd [(f, d)]) O2) : WE X (.Call (.Name x p) [e] [] cpos) Γ O k :=
  we_mkG F hr he hpl (h.imp fun d O1 ⟨l, hl, z⟩ a dd n => z a dd _ (has_put hl n))
theorem we_mk2H {x f g : Str} {C : Addr} {j : Nat} {e e2 : Expr} {p cpos : Pos} (F : Kx2 X x C f g j) (hr : Room (j + 1) X.A) (he : starEach [e, e2] X.env = (false, eval e X.env) :: starEach [e2] X.env) (hpl : (backTo cpos (starEach [e2] X.env)).any (·.1) = false)
    (h : WE X e Γ O fun d O1 => WE X e2 Γ O1 fun d2 O2 => ∃ l, Has O2 l ∧ ∀ a dd O3, Has O3 ((a, .xcp C (some dd)) :: l) → k (.exc a dd [(g, d2), (f, d)]) O3) (he2 : starEach [e2] X.env = [(false, eval e2 X.env)]) : WE X (.Call (.Name x p) [e, e2] [] cpos) Γ O k :=
  we_mk2 F hr he hpl (wa_cons he (h.imp fun d O1 z => wa_cons he2 (z.imp fun d2 O2 ⟨l, hl, z⟩ => wa_nil ⟨d, d2, rfl, fun a dd n => z a dd _ (has_put hl n)⟩)))
theorem we_mk0H {x : Str} {C : Addr} {p cpos : Pos} (F : Ke X x C) (h : ∃ l, Has O l ∧ ∀ a O2, Has O2 ((a, .xcp C none) :: l) → k (.own a) O2) : WE X (.Call (.Name x p) [] [] cpos) Γ O k := by
  obtain ⟨l, hl, z⟩ := h
  exact we_mk0 F fun a n => z a _ (has_put hl n)
theorem fzEs_same : ∀ ds : List D, FzEs O ds ds
  | [] => .nil
  | d :: ds => .cons (.same d) (fzEs_same ds)
end
section
variable {X : Cx} {Γ : Sg} {O : Ow} {De : DE}
theorem ws_par3 {x y z : Str} {i j l : Nat} {a b c : Expr} {px py pz pt kt k2 pt2 pos} (hc : X.calm = true) (vx : Vs X x i) (vy : Vs X y j) (vz : Vs X z l) (hij : i ≠ j) (hil : i ≠ l) (hjl : j ≠ l)
    (hx : X.env.scope.names.lookup x = some .local) (hy : X.env.scope.names.lookup y = some .local) (hz : X.env.scope.names.lookup z = some .local)
    (hw : swappedStores [.Tuple [.Name x px, .Name y py,
        .Name z pz] kt pt] (.Tuple [a, b, c] k2 pt2) X.env = pure (some [x, y, z]))
    (hs : swapsWithSole [.Tuple [.Name x px, .Name y py, .Name z pz] kt pt] (.Tuple [a, b, c] k2 pt2) pos.line X.env = pure false)
    (h : WA X [a, b, c] Γ O fun ds O1 => ∃ d e g, ds = [d, e, g] ∧ De.nx (((Γ.set i (some d)).set j (some e)).set l (some g)) O1) : WS X (.Assign [.Tuple [.Name x px, .Name y py, .Name z pz] kt pt] (.Tuple [a, b, c] k2 pt2) pos) Γ O De := fun σ L H hss hr E q => by
  refine toS (ps_par3 hc vx.nd vx.hN vy.hN vz.hN hij hil hjl hx hy hz (pau [a, b, c]) hw hs) ?_
  refine h σ L H hss hr _ fun vs ds O1 L1 H1 h1 e1 i1 r1 => ?_
  obtain ⟨d, e, g, z, h1⟩ := h1
  subst z
  cases i1 with
  | cons a1 t =>
    cases t with
    | cons a2 t =>
      cases t with
      | cons a3 t =>
        cases t
        exact ⟨_, _, _, rfl, q.nx _ _ _ _ _ h1 e1 ((((hss.mono e1).set a1 i).set a2 j).set a3 l) r1⟩
theorem par3_i {d e g : D} {φ : D → D → D → Prop} (h : φ d e g) : ∃ d' e' g', [d, e, g] = [d', e', g'] ∧ φ d' e' g' := ⟨d, e, g, rfl, h⟩
end
end DL
namespace Lw
open L2 DL PySem
open PySem.Spec PyProof.Rows
local macro_rules | `(tactic| walk_at "side") => `(tactic| first | assumption | rfl | (intro _; rfl) | exact nomark _ | (with_unfolding_all rfl) | decide)
local macro_rules | `(tactic| walk_at "sq") => `(tactic| first | assumption | exact sq_lst | exact sq_scr | exact sq_own (by first | assumption | exact put_same))
local macro_rules | `(tactic| walk_at "dc") => `(tactic| first | assumption | exact dc_dic | exact dc_own (by first | assumption | exact put_same))
local macro_rules | `(tactic| walk_at "in") => `(tactic| first | exact in_ins | exact in_own (by first | assumption | exact put_same))
local macro_rules | `(tactic| walk_at "ty") => `(tactic| first | exact .str _ | exact .int _ | exact .bl _ | exact .non | exact .byt _ | exact .tup _ | exact .lst _ | exact .dic _ | assumption)
local macro_rules | `(tactic| walk_at "len") => `(tactic| first | assumption | (exact len_ok (by assumption)) | (exact len_okz (by assumption)))
local macro_rules | `(tactic| walk_at "s1.WE") => `(tactic| first
  | with_reducible refine' we_int ?_
  | ((with_reducible refine' we_var ?v ?g ?_); (case v => assumption); (case g => rfl))
  | with_reducible refine' we_str ?_
  | with_reducible refine' we_bl ?_
  | with_reducible refine' we_non ?_
  | with_reducible refine' we_byt ?_
  | with_reducible refine' we_bin ?_
  | with_reducible refine' we_not ?_
  | with_reducible refine' we_un ?_
  | ((with_reducible refine' we_cmp ?m ?_); (case m => first | exact nomark _ | rfl))
  | ((with_reducible refine' we_chain ?m ?_); (case m => with_unfolding_all rfl))
  | with_reducible refine' we_and ?_
  | with_reducible refine' we_or ?_
  | with_reducible refine' we_and1 ?_
  | with_reducible refine' we_ifExp ?_
  | (with_reducible refine' we_slice ?_)
  | ((with_reducible refine' we_ix ?h ?_); (case h => exact fun _ _ => rfl))
  | (with_reducible refine' we_tup ?_)
  | ((with_reducible refine' we_callB ?b ?h ?p ?_); (case b => assumption); (case h => rfl); (case p => rfl))
  | ((with_reducible refine' we_callT ?b ?h ?p ?_); (case b => assumption); (case h => rfl); (case p => rfl))
  | ((with_reducible refine' we_call ?b ?g ?r ?h ?p ?_); (case b => assumption); (case g => assumption); (case r => exact Room.mono (by assumption) (by decide)); (case h => rfl); (case p => rfl))
  | ((with_reducible refine' we_meth ?f ?g ?r ?a ?b ?c ?_); (case f => assumption); (case g => assumption); (case r => exact Room.mono (by assumption) (by decide)); (case a => rfl); (case b => rfl); (case c => rfl))
  | ((with_reducible refine' we_fld ?h ?_); (case h => rfl))
  | ((with_reducible refine' we_ty ?b ?_); (case b => assumption))
  | ((with_reducible refine' we_glob ?g ?h ?_); (case g => assumption); (case h => assumption))
  | ((with_reducible refine' we_bm (T := "str") (id := "str.rstrip") PySem.F.plainAttrs_str PySem.F.slot_str_rstrip ?a ?b ?c ?d ?e ?f ?_); (case a => rfl); (case b => rfl); (case c => rfl); (case d => rfl); (case e => rfl); (case f => rfl))
  | ((with_reducible refine' we_bm (T := "str") (id := "str.join") PySem.F.plainAttrs_str PySem.F.slot_str_join ?a ?b ?c ?d ?e ?f ?_); (case a => rfl); (case b => rfl); (case c => rfl); (case d => rfl); (case e => rfl); (case f => rfl))
  | ((with_reducible refine' we_bm0 (T := "str") (id := "str.lower") PySem.F.plainAttrs_str PySem.F.slot_str_lower ?a ?b ?c ?_); (case a => rfl); (case b => rfl); (case c => rfl))
  | ((with_reducible refine' we_bm0 (T := "str") (id := "str.upper") PySem.F.plainAttrs_str PySem.F.slot_str_upper ?a ?b ?c ?_); (case a => rfl); (case b => rfl); (case c => rfl)))
local macro_rules | `(tactic| walk_at "s1.WO") => `(tactic| first
  | with_reducible refine' wo_add ?_
  | with_reducible refine' wo_sub ?_
  | with_reducible refine' wo_band1 ?_
  | ((with_reducible refine' wo_mod ?h ?_); (case h => first | decide | omega))
  | ((with_reducible refine' wo_fdiv ?h ?_); (case h => first | decide | omega))
  | ((with_reducible refine' wo_mul ?h ?_); (case h => first | (left; decide) | (right; decide) | (left; omega) | (right; omega)))
  | ((with_reducible refine' wo_pow ?h ?_); (case h => exact ⟨by decide, by decide, by decide⟩))
  | with_reducible refine' wo_lt ?_
  | with_reducible refine' wo_ltS ?_
  | with_reducible refine' wo_le ?_
  | with_reducible refine' wo_gt ?_
  | with_reducible refine' wo_ge ?_
  | with_reducible refine' wo_eq_ii ?_
  | with_reducible refine' wo_ne_ii ?_
  | with_reducible refine' wo_eq_ss ?_
  | with_reducible refine' wo_ne_ss ?_
  | with_reducible refine' wo_eq_bb ?_
  | with_reducible refine' wo_ne_bb ?_
  | with_reducible refine' wo_isN ?_
  | with_reducible refine' wo_notN ?_
  | with_reducible refine' wo_is_bb ?_
  | with_reducible refine' wo_not_bb ?_)
local macro_rules | `(tactic| walk_at "s1.ite") => `(tactic| first
  | (with_reducible refine' iteT ?_)
  | (with_reducible refine' iteF ?_)
  | ((with_reducible refine' iteT' ?h ?_); (case h => rfl))
  | ((with_reducible refine' iteF' ?h ?_); (case h => rfl))
  | (with_reducible refine' iteD (fun hc => ?_) (fun hc => ?_))
  | (with_reducible refine' iteND (fun hc => ?_) (fun hc => ?_)))
local macro_rules | `(tactic| walk_at "s1.ex") => `(tactic| first
  | (with_reducible refine' par_i ?_)
  | ((with_reducible refine' fld_own ?o ?c ?n ?z ?_); (case o => first | assumption | exact put_same); (case c => assumption); (case n => assumption); (case z => exact small_lt' rfl))
  | ((with_reducible refine' fld_get ?i ?c ?n ?l ?_); (case i => walk_at "in"); (case c => assumption); (case n => assumption); (case l => rfl))
  | ((with_reducible refine' mth_get ?i ?l ?_); (case i => walk_at "in"); (case l => rfl))
  | ((with_reducible refine' Exists.intro _ (And.intro ?h ?_)); (case h => rfl)))
local macro_rules | `(tactic| walk_at "s1.and") => `(tactic| first
  | (with_reducible refine' tym_str ?_)
  | ((with_reducible refine' And.intro ?h ?_); (case h => exact small_len rfl))
  | ((with_reducible refine' And.intro ?h ?_); (case h => omega)))
local macro_rules | `(tactic| walk_at "s1.WT") => `(tactic| first
  | (with_reducible refine' wt_not ?_)
  | (with_reducible refine' wt_w (ww_and ?_))
  | (with_reducible refine' wt_w (ww_or ?_))
  | ((with_reducible refine' wt_cmp ?m ?_); (case m => first | exact nomark _ | rfl))
  | ((with_reducible refine' wt_chain ?m ?_); (case m => with_unfolding_all rfl))
  | ((with_reducible refine' wt_val ?h ?_); (case h => (intro _; rfl))))
local macro_rules | `(tactic| walk_at "s1.WSs") => `(tactic| first
  | (with_reducible refine' ws_one ?_)
  | (with_reducible refine' ws_cons ?_)
  | (with_reducible refine' ws_nil ?_))
local macro_rules | `(tactic| walk_at "s1.WS") => `(tactic| first
  | ((with_reducible refine' ws_set ?x ?w ?_); (case x => assumption); (case w => rfl))
  | (with_reducible refine' ws_ret ?_)
  | ((with_reducible refine' ws_parR ?c ?x ?y ?n ?lx ?ly ?w ?s ?_); (case c => rfl); (case x => assumption); (case y => assumption); (case n => decide); (case lx => rfl); (case ly => rfl); (case w => rfl); (case s => rfl))
  | ((with_reducible refine' ws_fld ?h ?_); (case h => rfl))
  | ((with_reducible refine' ws_asg ?a ?b ?c ?_); (case a => rfl); (case b => rfl); (case c => rfl))
  | (with_reducible refine' ws_retN ?_)
  | (with_reducible refine' ws_if ?_)
  | (with_reducible refine' ws_pass ?_)
  | (with_reducible refine' ws_doc ?_)
  | (with_reducible refine' ws_break ?_)
  | (with_reducible refine' ws_continue ?_)
  | ((with_reducible refine' ws_expr ?w ?_); (case w => rfl)))
local macro_rules | `(tactic| walk_at "s1.WA") => `(tactic| first
  | (with_reducible refine' wa_nil ?_)
  | ((with_reducible refine' wa_cons ?h ?_); (case h => rfl)))
local macro_rules | `(tactic| walk_at "s1.WC") => `(tactic| first
  | with_reducible refine' wc_int ?_
  | with_reducible refine' wc_intB ?_
  | with_reducible refine' wc_abs ?_
  | ((with_reducible refine' wc_reprI ?h ?_); (case h => omega))
  | with_reducible refine' wc_max2 rfl ?_
  | with_reducible refine' wc_min2 rfl ?_
  | ((with_reducible refine' wc_lenL ?d ?_); (case d => walk_at "sq"))
  | with_reducible refine' wc_lenT ?_
  | ((with_reducible refine' wc_all ?c ?d ?_); (case c => rfl); (case d => walk_at "sq"))
  | ((with_reducible refine' wc_divmod ?h ?_); (case h => first | decide | omega))
  | ((with_reducible refine' wc_isi ?t ?h ?_); (case t => walk_at "ty"); (case h => rfl))
  | ((with_reducible refine' wc_isi2 ?t ?h ?g ?_); (case t => walk_at "ty"); (case h => rfl); (case g => rfl)))
local macro_rules | `(tactic| walk_at "s1.WI") => `(tactic| first
  | ((with_reducible refine' wi_box ?h (fun g => ?_)); (case h => decide))
  | ((with_reducible refine' wi_tup ?h ?_); (case h => rfl))
  | ((with_reducible refine' wi_list ?d ?h ?_); (case d => walk_at "sq"); (case h => rfl))
  | ((with_reducible refine' wi_dictS ?u ?d ?h ?_); (case u => exact hu_of (by assumption)); (case d => walk_at "dc"); (case h => first | rfl | assumption))
  | (with_reducible refine' wi_two (fun hb => ?_) (fun hb => ?_))
  | ((with_reducible refine' wi_pair ?h (fun hp => ?_) (fun hp => ?_)); (case h => exact ⟨by omega, by omega⟩)))
local macro_rules | `(tactic| walk_at "s1.WG") => `(tactic| first
  | ((with_reducible refine' wg_name ?h ?_); (case h => assumption))
  | ((with_reducible refine' wg_tup ?h ?l ?f ?_); (case h => rfl); (case l => rfl); (case f => rfl))
  | ((with_reducible refine' wg_sub ?h ?_); (case h => exact fun _ => rfl)))
local macro_rules | `(tactic| walk_at "s1.WGs") => `(tactic| first
  | (with_reducible refine' wgs_nil ?_)
  | ((with_reducible refine' wgs_cons ?h ?_); (case h => rfl)))
local macro_rules | `(tactic| walk_at "s1.WW") => `(tactic| first
  | (with_reducible refine' ww_and ?_)
  | (with_reducible refine' ww_or ?_)
  | (with_reducible refine' ww_and1 ?_)
  | (with_reducible refine' ww_or1 ?_))
local macro_rules | `(tactic| walk_at "s1.WU") => `(tactic| first
  | with_reducible refine' wu_neg ?_)
local macro_rules | `(tactic| walk_at "s1.LoopD") => `(tactic| first
  | (with_reducible refine' loop_cons ?_)
  | (with_reducible refine' loop_nil ?_))
local macro_rules | `(tactic| walk_at "s1.WM") => `(tactic| first
  | ((with_reducible refine' wm_rstripC ?h ?_); (case h => walk_at "len"))
  | ((with_reducible refine' wm_lower ?h ?_); (case h => walk_at "len"))
  | ((with_reducible refine' wm_upper ?h ?_); (case h => walk_at "len")))
local macro_rules | `(tactic| walk_at "s1.WP") => `(tactic| first
  | (with_reducible refine' wp_some ?_)
  | (with_reducible refine' wp_none ?_))
local macro_rules | `(tactic| walk_at "s1.WSl") => `(tactic| first
  | ((with_reducible refine' wsl_str ?h ?_); (case h => assumption)))
local macro_rules | `(tactic| walk_at "s1.WSet") => `(tactic| first
  | ((with_reducible refine' wset_box ?h ?_); (case h => decide))
  | ((with_reducible refine' wset_dictS ?u ?o ?z ?_); (case u => exact hu_of (by assumption)); (case o => first | assumption | exact put_same); (case z => exact small_lt rfl)))
local macro_rules | `(tactic| walk_at "s1.WPs") => `(tactic| first
  | (with_reducible refine' wps_cons ?_)
  | (with_reducible refine' wps_nil ?_))
local macro_rules | `(tactic| walk_at "s1") => `(tactic| first
  | ((with_reducible refine' gq_WE ?_); walk_at "s1.WE")
  | ((with_reducible refine' gq_WO ?_); walk_at "s1.WO")
  | ((with_reducible refine' gq_ite ?_); walk_at "s1.ite")
  | ((with_reducible refine' gq_ex ?_); walk_at "s1.ex")
  | ((with_reducible refine' gq_and ?_); walk_at "s1.and")
  | ((with_reducible refine' gq_WT ?_); walk_at "s1.WT")
  | ((with_reducible refine' gq_WSs ?_); walk_at "s1.WSs")
  | ((with_reducible refine' gq_WS ?_); walk_at "s1.WS")
  | ((with_reducible refine' gq_WA ?_); walk_at "s1.WA")
  | ((with_reducible refine' gq_WC ?_); walk_at "s1.WC")
  | ((with_reducible refine' gq_WI ?_); walk_at "s1.WI")
  | ((with_reducible refine' gq_WG ?_); walk_at "s1.WG")
  | ((with_reducible refine' gq_WGs ?_); walk_at "s1.WGs")
  | ((with_reducible refine' gq_WW ?_); walk_at "s1.WW")
  | ((with_reducible refine' gq_WU ?_); walk_at "s1.WU")
  | ((with_reducible refine' gq_LoopD ?_); walk_at "s1.LoopD")
  | ((with_reducible refine' gq_WM ?_); walk_at "s1.WM")
  | ((with_reducible refine' gq_WP ?_); walk_at "s1.WP")
  | ((with_reducible refine' gq_WSl ?_); walk_at "s1.WSl")
  | ((with_reducible refine' gq_WSet ?_); walk_at "s1.WSet")
  | ((with_reducible refine' gq_WPs ?_); walk_at "s1.WPs"))
local macro_rules | `(tactic| walk_at "ev") => `(tactic| repeat' (walk_at "s1"))
local macro_rules | `(tactic| walk_at "evl") => `(tactic| repeat' (first | walk_at "s1" | (with_reducible refine' we_lst ?_)))
local macro_rules | `(tactic| walk_at "vis") => `(tactic| first | exact Or.inl rfl | exact Or.inr (Or.inl rfl) | exact Or.inr (Or.inr rfl))
local macro_rules | `(tactic| walk_at "loc") => `(tactic| first | exact Or.inl rfl | exact Or.inr rfl)
local macro_rules | `(tactic| walk_at "body") => `(tactic| (conv => arg 2; whnf))
def top (i : Nat) : Stmt := PySem.Challenge.pw_sentparts_k01_errors.main.body.getD i (.Pass ⟨0, 0, 0, 0⟩)
section
variable {base : Heap} {mg : Str → Option Value} {K : PySem.W.Frag} {w : World} {P : Program}
/-! ### draws -/
abbrev s__law_take : Stmt := top 15
abbrev n__law_take : List Str := ["_law_box_here", "_law_many", "_law_digit", "_law_near"]
abbrev p__law_take : List Str := ["_law_box_here", "_law_many"]
theorem sc__law_take : FnScope n__law_take p__law_take (defScope s__law_take) := ⟨rfl, rfl, rfl, by decide +kernel, rfl, by decide +kernel, by decide +kernel⟩
abbrev s__law_box : Stmt := top 14
abbrev n__law_box : List Str := ["_law_script", "_law_k", "_law_great", "_law_seed"]
abbrev p__law_box : List Str := ["_law_script", "_law_k"]
theorem sc__law_box : FnScope n__law_box p__law_box (defScope s__law_box) := ⟨rfl, rfl, rfl, by decide +kernel, rfl, by decide +kernel, by decide +kernel⟩
def sTake : SpD := fun ds O k _ => ∃ n : Int, ds = [.box, .int n] ∧ 0 < n ∧ n < 1073741824 ∧ ∀ r : Int, 0 ≤ r → r < n → k (.int r) O
theorem sTake_i {O : Ow} {k : KD} {kx : KX} {n : Int} (h0 : 0 < n ∧ n < 1073741824) (h : ∀ r : Int, 0 ≤ r → r < n → k (.int r) O) : sTake [.box, .int n] O k kx := ⟨n, rfl, h0.1, h0.2, h⟩
theorem pm_take (Dd : Df K mg "_law_take" s__law_take p__law_take) (b_int : mg "int" = none) : Pm P w K mg base "_law_take" 1 sTake := by
  refine Pm.of Dd sc__law_take (fun ds O k kx ⟨n, h, _⟩ => by rw [h]; rfl) (fun f cdv A outer s H E hg hr ds O k kx hS => ?_)
  obtain ⟨n, rfl, n0, n1, hk⟩ := hS
  refine with_va (x := "_law_box_here") (i := 0) ⟨rfl, by walk_at "vis", by decide, by decide⟩ fun va0 => ?_
  refine with_va (x := "_law_many") (i := 1) ⟨rfl, by walk_at "vis", by decide, by decide⟩ fun va1 => ?_
  refine with_va (x := "_law_digit") (i := 2) ⟨rfl, by walk_at "vis", by decide, by decide⟩ fun va2 => ?_
  refine with_va (x := "_law_near") (i := 3) ⟨rfl, by walk_at "vis", by decide, by decide⟩ fun va3 => ?_
  refine with_vs (x := "_law_digit") (i := 2) ⟨sc__law_take.nd, rfl, by walk_at "loc", .inl rfl⟩ fun vs2 => ?_
  refine with_vs (x := "_law_near") (i := 3) ⟨sc__law_take.nd, rfl, by walk_at "loc", .inl rfl⟩ fun vs3 => ?_
  refine with_bt (x := "int") (T := "int") ⟨rfl, b_int, by decide +kernel, by decide, by decide⟩ fun bt_int => ?_
  walk_at "body"
  walk_at "ev"
  all_goals exact Ret.of (hk _ (Int.emod_nonneg _ (by omega)) (Int.emod_lt_of_pos _ n0))
def sBox : SpD := fun ds O k _ => ∃ (ns : List Int) (j : Nat), ds = [.scr (ns.map .int), .int (j : Int)] ∧ k .box O
theorem pm_box (Dd : Df K mg "_law_box" s__law_box p__law_box) (b_int : mg "int" = none) (b_len : mg "len" = none) (b_abs : mg "abs" = none) : Pm P w K mg base "_law_box" 1 sBox := by
  refine Pm.of Dd sc__law_box (fun ds O k kx ⟨ns, j, h, _⟩ => by rw [h]; rfl) (fun f cdv A outer s H E hg hr ds O k kx hS => ?_)
  obtain ⟨ns, j, rfl, hk⟩ := hS
  refine with_va (x := "_law_script") (i := 0) ⟨rfl, by walk_at "vis", by decide, by decide⟩ fun va0 => ?_
  refine with_va (x := "_law_k") (i := 1) ⟨rfl, by walk_at "vis", by decide, by decide⟩ fun va1 => ?_
  refine with_va (x := "_law_great") (i := 2) ⟨rfl, by walk_at "vis", by decide, by decide⟩ fun va2 => ?_
  refine with_va (x := "_law_seed") (i := 3) ⟨rfl, by walk_at "vis", by decide, by decide⟩ fun va3 => ?_
  refine with_vs (x := "_law_great") (i := 2) ⟨sc__law_box.nd, rfl, by walk_at "loc", .inl rfl⟩ fun vs2 => ?_
  refine with_vs (x := "_law_seed") (i := 3) ⟨sc__law_box.nd, rfl, by walk_at "loc", .inl rfl⟩ fun vs3 => ?_
  refine with_bt (x := "int") (T := "int") ⟨rfl, b_int, by decide +kernel, by decide, by decide⟩ fun bt_int => ?_
  refine with_bn (x := "len") (id := "len") ⟨rfl, b_len, by decide +kernel, by decide, by decide⟩ fun bn_len => ?_
  refine with_bn (x := "abs") (id := "abs") ⟨rfl, b_abs, by decide +kernel, by decide, by decide⟩ fun bn_abs => ?_
  walk_at "body"
  walk_at "ev"
  · have hj : (j : Int) < ((ns.map D.int).length : Int) := by assumption
    rw [List.length_map] at hj
    refine wi_scrI (by omega) hj fun v _ => ?_
    walk_at "ev"
    refine we_boxL ?_
    walk_at "evl"
    all_goals (refine Exists.intro _ (Exists.intro _ (Exists.intro _ (And.intro rfl ?_))))
    all_goals exact Ret.of hk
  · have hj : (0 : Int) < ((ns.map D.int).length : Int) := by assumption
    rw [List.length_map] at hj
    rw [List.length_map]
    refine wi_scrI (Int.emod_nonneg _ (by omega)) (Int.emod_lt_of_pos _ hj) fun v _ => ?_
    walk_at "ev"
    refine we_boxL ?_
    walk_at "evl"
    all_goals (refine Exists.intro _ (Exists.intro _ (Exists.intro _ (And.intro rfl ?_))))
    all_goals exact Ret.of hk
  · refine we_boxL ?_
    walk_at "evl"
    all_goals (refine Exists.intro _ (Exists.intro _ (Exists.intro _ (And.intro rfl ?_))))
    all_goals exact Ret.of hk
theorem Ret.fzp {k : KD} {p : Addr} {od : OD} {O : Ow} (hn : O p = none) (h : k od.d O) : Ret k (.own p) (put O p od) := .frz put_same (by rw [del_put hn]; exact .refl O) h
/-! ### any value -/
abbrev s__law_thing : Stmt := top 16
abbrev n__law_thing : List Str := ["_law_box_here", "_law_deep", "_law_form", "_law_found", "_law_turn"]
abbrev p__law_thing : List Str := ["_law_box_here", "_law_deep"]
theorem sc__law_thing : FnScope n__law_thing p__law_thing (defScope s__law_thing) := ⟨rfl, rfl, rfl, by decide +kernel, rfl, by decide +kernel, by decide +kernel⟩
/-- a datum that may be compared -/
structure Cp (d : D) (n : Nat) : Prop where
  py : d.isPy = true
  lay : d.py.canLay0 = true
  dp : d.py.depth ≤ n
theorem cps {n : Nat} : ∀ {ds : List D}, (∀ d ∈ ds, Cp d n) → D.arePy ds = true ∧ PyData.canLayAll0 (D.pys ds) = true ∧ PyData.depthAll (D.pys ds) ≤ n
  | [], _ => ⟨rfl, rfl, Nat.zero_le _⟩
  | d :: ds, h => by
    obtain ⟨h1, h3, h4⟩ := h d List.mem_cons_self
    obtain ⟨g1, g3, g4⟩ := cps fun e he => h e (List.mem_cons_of_mem _ he)
    rw [D.arePy, D.pys, PyData.canLayAll0, PyData.depthAll, h1, h3, g1, g3]
    exact ⟨rfl, rfl, Nat.max_le.mpr ⟨h4, g4⟩⟩
theorem cp_lst {n : Nat} {ds : List D} (h : ∀ d ∈ ds, Cp d n) : Cp (.lst ds) (n + 1) := by
  obtain ⟨g1, g3, g4⟩ := cps h
  exact ⟨by rw [D.isPy]; exact g1, by rw [D.py, PyData.canLay0]; exact g3, by rw [D.py, PyData.depth]; omega⟩
theorem cp_tup {n : Nat} {ds : List D} (h : ∀ d ∈ ds, Cp d n) : Cp (.tup ds) (n + 1) := by
  obtain ⟨g1, g3, g4⟩ := cps h
  exact ⟨by rw [D.isPy]; exact g1, by rw [D.py, PyData.canLay0]; exact g3, by rw [D.py, PyData.depth]; omega⟩
theorem Cp.mono {d : D} {n m : Nat} (h : Cp d n) (hm : n ≤ m) : Cp d m := ⟨h.py, h.lay, Nat.le_trans h.dp hm⟩
theorem Cp.shaped {d : D} {n : Nat} (h : Cp d n) (hn : n ≤ 64) : SeqAt.shaped d.py = true := by
  unfold SeqAt.shaped
  rw [h.lay, decide_eq_true (Nat.le_trans h.dp hn)]
  rfl
theorem Cp.self {d : D} {n : Nat} (h : Cp d n) : PyData.eqv d.py d.py = true := SeqAt.eqv_refl_plain _ (PyData.plain_of_canLay0 _ h.lay)
theorem cp_flat : ∀ d ∈ [D.non, .bl true, .int 7, .str "a b", .int (0 - 3)], ∀ n, Cp d n := by
  intro d hd n
  simp only [List.mem_cons, List.not_mem_nil, or_false] at hd
  rcases hd with rfl | rfl | rfl | rfl | rfl
  · exact ⟨rfl, rfl, Nat.zero_le _⟩
  · exact ⟨rfl, rfl, Nat.zero_le _⟩
  · exact ⟨rfl, rfl, Nat.zero_le _⟩
  · exact ⟨rfl, by decide +kernel, Nat.zero_le _⟩
  · exact ⟨rfl, rfl, Nat.zero_le _⟩
def sThing (n : Nat) : SpD := fun ds O k _ => ∃ m : Nat, m ≤ n ∧ ds = [.box, .int m] ∧ ∀ d, Cp d n → k d O
theorem sThing_i {n : Nat} {i : Int} {O : Ow} {k : KD} {kx : KX} (hi : 0 ≤ i ∧ i ≤ n) (h : ∀ d, Cp d n → k d O) : sThing n [.box, .int i] O k kx := ⟨i.toNat, by omega, by rw [Int.toNat_of_nonneg hi.1], h⟩
local macro_rules | `(tactic| walk_at "h1") => `(tactic| first
  | (with_reducible refine' we_lst ?_)
  | (refine sTake_i ⟨by first | omega | decide, by first | omega | decide⟩ fun r r0 r1 => ?_)
  | walk_at "s1")
local macro_rules | `(tactic| walk_at "hv") => `(tactic| repeat' (walk_at "h1"))
theorem pm_thing (Dd : Df K mg "_law_thing" s__law_thing p__law_thing) (h_take : Pm P w K mg base "_law_take" 1 sTake) (b_range : mg "range" = none) (b_tuple : mg "tuple" = none) : ∀ n : Nat, n ≤ 5 → Pm P w K mg base "_law_thing" (2 + n) (sThing n) := by
  intro n
  induction n with
  | zero =>
    intro _
    refine Pm.of Dd sc__law_thing (fun ds O k kx h => by obtain ⟨_, _, h, _⟩ := h; rw [h]; rfl) (fun f cdv A outer s H E hg hr ds O k kx hS => ?_)
    obtain ⟨m, hm, rfl, hk⟩ := hS
    obtain rfl : m = 0 := by omega
    refine with_va (x := "_law_box_here") (i := 0) ⟨rfl, by walk_at "vis", by decide, by decide⟩ fun va0 => ?_
    refine with_va (x := "_law_deep") (i := 1) ⟨rfl, by walk_at "vis", by decide, by decide⟩ fun va1 => ?_
    refine with_va (x := "_law_form") (i := 2) ⟨rfl, by walk_at "vis", by decide, by decide⟩ fun va2 => ?_
    refine with_va (x := "_law_found") (i := 3) ⟨rfl, by walk_at "vis", by decide, by decide⟩ fun va3 => ?_
    refine with_vs (x := "_law_form") (i := 2) ⟨sc__law_thing.nd, rfl, by walk_at "loc", .inl rfl⟩ fun vs2 => ?_
    refine with_vs (x := "_law_found") (i := 3) ⟨sc__law_thing.nd, rfl, by walk_at "loc", .inl rfl⟩ fun vs3 => ?_
    refine with_kn (h_take.kn rfl rfl rfl rfl rfl rfl (by decide)) fun kn_take => ?_
    walk_at "body"
    walk_at "hv"
    · (refine wi_any sq_lst (by assumption) ?_ fun e he => Ret.of (hk e (cp_flat e he _)); show _ < ((5 : Nat) : Int); omega)
    · exact absurd ‹_ < (5 : Int)› ‹¬ _ < (5 : Int)›
  | succ n ih =>
    intro hn
    have h_thing := ih (by omega)
    refine Pm.of Dd sc__law_thing (fun ds O k kx h => by obtain ⟨_, _, h, _⟩ := h; rw [h]; rfl) (fun f cdv A outer s H E hg hr ds O k kx hS => ?_)
    obtain ⟨m, hm, rfl, hk⟩ := hS
    refine with_va (x := "_law_box_here") (i := 0) ⟨rfl, by walk_at "vis", by decide, by decide⟩ fun va0 => ?_
    refine with_va (x := "_law_deep") (i := 1) ⟨rfl, by walk_at "vis", by decide, by decide⟩ fun va1 => ?_
    refine with_va (x := "_law_form") (i := 2) ⟨rfl, by walk_at "vis", by decide, by decide⟩ fun va2 => ?_
    refine with_va (x := "_law_found") (i := 3) ⟨rfl, by walk_at "vis", by decide, by decide⟩ fun va3 => ?_
    refine with_vs (x := "_law_form") (i := 2) ⟨sc__law_thing.nd, rfl, by walk_at "loc", .inl rfl⟩ fun vs2 => ?_
    refine with_vs (x := "_law_found") (i := 3) ⟨sc__law_thing.nd, rfl, by walk_at "loc", .inl rfl⟩ fun vs3 => ?_
    refine with_kn (h_take.kn rfl rfl rfl rfl rfl rfl (by decide)) fun kn_take => ?_
    refine with_bt (x := "tuple") (T := "tuple") ⟨rfl, b_tuple, by decide +kernel, by decide, by decide⟩ fun bt_tuple => ?_
    have hr1 := Room.mono (j := 2) hr (by show 2 ≤ 2 + n; omega)
    cases m with
    | zero =>
      walk_at "body"
      walk_at "hv"
      · (refine wi_any sq_lst (by assumption) ?_ fun e he => Ret.of (hk e (cp_flat e he _)); show _ < ((5 : Nat) : Int); omega)
      · exact absurd ‹_ < (5 : Int)› ‹¬ _ < (5 : Int)›
    | succ m =>
      walk_at "body"
      walk_at "hv"
      · (refine wi_any sq_lst (by assumption) ?_ fun e he => Ret.of (hk e (cp_flat e he _)); show _ < ((5 : Nat) : Int); omega)
      rotate_left
      · exfalso
        omega
      · exfalso
        omega
      (with_reducible refine' ws_setLc (j := 3) [("_law_turn", 4)] (.nm 4) ?c1 ?c2 ?c3 ?c4 ?c5 ?c6 ?c7 ?c8 ?c9 ?c10 ?_); (case c1 => rfl); (case c2 => exact sc__law_thing.nd); (case c3 => rfl); (case c4 => rfl); (case c5 => rfl); (case c6 => rfl); (case c7 => exact .inl rfl); (case c8 => exact fun _ => rfl); (case c9 => exact fun s0 H0 C0 cl0 fp0 => pg_name (i := 4) sc__law_thing.nd rfl (Or.inl rfl) (Or.inr rfl)); (case c10 => decide)
      (with_reducible refine' it_range1 ?a1 ?b1 ?a2 ?_); (case a1 => rfl); (case b1 => exact b_range); (case a2 => rfl)
      iterate 9 (walk_at "h1")
      refine ⟨_, rfl, by omega, by omega, ?_⟩
      refine lc_any (fun _ y => Cp y n) (by rw [rngD_len]; omega) (fun i d hd O2 ag => ?_) fun acc hl hp => ?_
      · refine ⟨_, rfl, fun s0 H0 C0 cl0 fp0 => ?_⟩
        refine e_va (x := "_law_box_here") (i := 0) ⟨rfl, by walk_at "vis", by decide, by decide⟩ fun va0 => ?_
        refine e_va (x := "_law_deep") (i := 1) ⟨rfl, by walk_at "vis", by decide, by decide⟩ fun va1 => ?_
        refine e_kn (h_thing.kn rfl rfl rfl rfl rfl rfl (by decide)) fun kn_thing => ?_
        (with_reducible refine' we_call kn_thing ?t1 ?t2 ?t3 ?t4 ?_); (case t1 => exact hg); (case t2 => exact hr); (case t3 => rfl); (case t4 => rfl)
        walk_at "hv"
        refine sThing_i (by omega) fun d hd => ⟨rfl, hd⟩
      have ha : ∀ d ∈ acc, Cp d n := fun d hd => by
        obtain ⟨i, hi⟩ := List.getElem?_of_mem hd
        exact hp i d hi
      walk_at "hv"
      · exact Ret.of (hk _ (cp_lst ha))
      · exact wc_tupL sq_lst (Ret.of (hk _ (cp_tup ha)))
/-! ### which of the eight classes -/
abbrev s__law_classes : Stmt := top 17
abbrev n__law_classes : List Str := ["_law_error", "_law_found"]
abbrev p__law_classes : List Str := ["_law_error"]
theorem sc__law_classes : FnScope n__law_classes p__law_classes (defScope s__law_classes) := ⟨rfl, rfl, rfl, by decide +kernel, rfl, by decide +kernel, by decide +kernel⟩
abbrev s_InvalidQuestion___init__ : Stmt := inClass (top 6) 0
abbrev n_InvalidQuestion___init__ : List Str := ["self", "at", "word"]
abbrev p_InvalidQuestion___init__ : List Str := ["self", "at", "word"]
theorem sc_InvalidQuestion___init__ : FnScope n_InvalidQuestion___init__ p_InvalidQuestion___init__ (defScope s_InvalidQuestion___init__) := ⟨rfl, rfl, rfl, by decide +kernel, rfl, by decide +kernel, by decide +kernel⟩
theorem iq_init {CI fI : Addr} {fd : FuncData} (F : L2.Fun K "__init__" "InvalidQuestion.__init__" s_InvalidQuestion___init__ fI fd) (T : OexC K CI) (h1 : PySem.W.findIn K (.ref CI) "at" = some none) (h2 : PySem.W.findIn K (.ref CI) "word" = some none) : FnOk P w K mg base CX0 1 fI fd p_InvalidQuestion___init__ (spXc2 CI "at" "word") := by
  refine L2.Fun.ok F sc_InvalidQuestion___init__ (fun vs H Q E h => by obtain ⟨_, _, _, h, _⟩ := h; rw [h]; rfl) (fun cdv A outer s H vs Q E hr hS => ?_)
  obtain ⟨a, y, z, rfl, ha, hq⟩ := hS
  exact ⟨_, pss_cons (ps_ost (pe_var (i := 0) rfl (by walk_at "vis") (by decide) (by decide)) (pe_var (i := 1) rfl (by walk_at "vis") (by decide) (by decide)) rfl) (pss_one (ps_ost (pe_var (i := 0) rfl (by walk_at "vis") (by decide) (by decide)) (pe_var (i := 2) rfl (by walk_at "vis") (by decide) (by decide)) rfl)),
    ⟨y, rfl, .ref a, rfl, a, CI, rfl, T, h1, .inl ⟨ha, fun dx n1 n2 => ⟨z, rfl, .ref a, rfl, a, CI, rfl, T, h2, .inr ⟨dx, [("at", y)], upd_same, by rw [upd_ne n2]; exact upd_same, by show 1 ≤ 900; decide, hq dx n1 n2⟩⟩⟩⟩⟩
theorem with_gd {X : Cx} {Γ : Sg} {O : Ow} {De : DE} {st : List Stmt} {x : Str} {d : D} (hv : Gd X x d) (h : Gd X x d → WSs X st Γ O De) : WSs X st Γ O De := h hv
structure C8 (K : PySem.W.Frag) (mg : Str → Option Value) (c : Fin 8 → Addr) : Prop where
  kit : ∀ i j, PySem.W.kitOne K (.ref (c i)) (.ref (c j)) = some (decide (j = i))
  ex : ∀ i, ExcC K (c i)
  g0 : GlD K mg "InvalidWays" (.own (c 0))
  g1 : GlD K mg "InvalidTable" (.own (c 1))
  g2 : GlD K mg "InvalidTest" (.own (c 2))
  g3 : GlD K mg "InvalidStep" (.own (c 3))
  g4 : GlD K mg "InvalidQuestion" (.own (c 4))
  g5 : GlD K mg "InvalidText" (.own (c 5))
  g6 : GlD K mg "InvalidCommand" (.own (c 6))
  g7 : GlD K mg "Mismatch" (.own (c 7))
def bl8 (i : Fin 8) : List D := [.bl (decide ((0 : Fin 8) = i)), .bl (decide ((1 : Fin 8) = i)), .bl (decide ((2 : Fin 8) = i)), .bl (decide ((3 : Fin 8) = i)), .bl (decide ((4 : Fin 8) = i)), .bl (decide ((5 : Fin 8) = i)), .bl (decide ((6 : Fin 8) = i)), .bl (decide ((7 : Fin 8) = i))]
def sClasses (c : Fin 8 → Addr) : SpD := fun ds O k _ => ∃ (x : D) (i : Fin 8), ds = [x] ∧ XV O (c i) x ∧ k (.lst (bl8 i)) O
section
variable {c : Fin 8 → Addr}
local macro_rules | `(tactic| walk_at "k1") => `(tactic| first
  | ((with_reducible refine' we_gd ?g ?_); (case g => assumption))
  | ((with_reducible refine' wc_isV ?t ?x ?c ?k ?_); (case t => assumption); (case x => assumption); (case c => exact .inl ⟨_, rfl, rfl⟩); (case k => assumption))
  | (with_reducible refine' we_lst ?_)
  | ((with_reducible refine' wo_cat tq_lst tq_lst ?z ?_); (case z => rw [sizeLine_eq]; exact Nat.le_of_ble_eq_true rfl))
  | walk_at "s1")
local macro_rules | `(tactic| walk_at "kv") => `(tactic| repeat' (walk_at "k1"))
theorem pm_classes (Dd : Df K mg "_law_classes" s__law_classes p__law_classes) (q : C8 K mg c) (b_isi : mg "isinstance" = none) : Pm P w K mg base "_law_classes" 1 (sClasses c) := by
  refine Pm.of Dd sc__law_classes (fun ds O k kx h => by obtain ⟨_, _, h, _⟩ := h; rw [h]; rfl) (fun f cdv A outer s H E hg hr ds O k kx hS => ?_)
  obtain ⟨x, i, rfl, hx, hk⟩ := hS
  refine with_va (x := "_law_error") (i := 0) ⟨rfl, by walk_at "vis", by decide, by decide⟩ fun va0 => ?_
  refine with_va (x := "_law_found") (i := 1) ⟨rfl, by walk_at "vis", by decide, by decide⟩ fun va1 => ?_
  refine with_vs (x := "_law_found") (i := 1) ⟨sc__law_classes.nd, rfl, by walk_at "loc", .inl rfl⟩ fun vs1 => ?_
  refine with_bn (x := "isinstance") (id := "isinstance") ⟨rfl, b_isi, by decide +kernel, by decide, by decide⟩ fun bn_isi => ?_
  refine with_gd (q.g0.gd rfl rfl rfl (by decide)) fun gd_0 => ?_
  refine with_gd (q.g1.gd rfl rfl rfl (by decide)) fun gd_1 => ?_
  refine with_gd (q.g2.gd rfl rfl rfl (by decide)) fun gd_2 => ?_
  refine with_gd (q.g3.gd rfl rfl rfl (by decide)) fun gd_3 => ?_
  refine with_gd (q.g4.gd rfl rfl rfl (by decide)) fun gd_4 => ?_
  refine with_gd (q.g5.gd rfl rfl rfl (by decide)) fun gd_5 => ?_
  refine with_gd (q.g6.gd rfl rfl rfl (by decide)) fun gd_6 => ?_
  refine with_gd (q.g7.gd rfl rfl rfl (by decide)) fun gd_7 => ?_
  have qe := q.ex i
  have qk0 := q.kit i 0
  have qk1 := q.kit i 1
  have qk2 := q.kit i 2
  have qk3 := q.kit i 3
  have qk4 := q.kit i 4
  have qk5 := q.kit i 5
  have qk6 := q.kit i 6
  have qk7 := q.kit i 7
  walk_at "body"
  walk_at "kv"
  exact Ret.of hk
end
/-! ### the law -/
abbrev s_law : Stmt := top 18
abbrev n_law : List Str := ["_law_script", "_law_k", "_law_box_here", "_law_one", "_law_other", "_law_ways", "_law_table", "_law_test", "_law_step", "_law_question", "_law_text", "_law_row", "_law_number", "_law_column", "_law_made", "_law_at", "_law_error", "_law_spot"]
abbrev p_law : List Str := ["_law_script"]
theorem sc_law : FnScope n_law p_law (defScope s_law) := ⟨rfl, rfl, rfl, by decide +kernel, rfl, by decide +kernel, by decide +kernel⟩
abbrev s_InvalidWays___init__ : Stmt := inClass (top 2) 0
abbrev n_InvalidWays___init__ : List Str := ["self", "word"]
abbrev p_InvalidWays___init__ : List Str := ["self", "word"]
theorem sc_InvalidWays___init__ : FnScope n_InvalidWays___init__ p_InvalidWays___init__ (defScope s_InvalidWays___init__) := ⟨rfl, rfl, rfl, by decide +kernel, rfl, by decide +kernel, by decide +kernel⟩
abbrev s_InvalidTable___init__ : Stmt := inClass (top 3) 0
abbrev n_InvalidTable___init__ : List Str := ["self", "word"]
abbrev p_InvalidTable___init__ : List Str := ["self", "word"]
theorem sc_InvalidTable___init__ : FnScope n_InvalidTable___init__ p_InvalidTable___init__ (defScope s_InvalidTable___init__) := ⟨rfl, rfl, rfl, by decide +kernel, rfl, by decide +kernel, by decide +kernel⟩
abbrev s_InvalidTest___init__ : Stmt := inClass (top 4) 0
abbrev n_InvalidTest___init__ : List Str := ["self", "word"]
abbrev p_InvalidTest___init__ : List Str := ["self", "word"]
theorem sc_InvalidTest___init__ : FnScope n_InvalidTest___init__ p_InvalidTest___init__ (defScope s_InvalidTest___init__) := ⟨rfl, rfl, rfl, by decide +kernel, rfl, by decide +kernel, by decide +kernel⟩
abbrev s_InvalidStep___init__ : Stmt := inClass (top 5) 0
abbrev n_InvalidStep___init__ : List Str := ["self", "word"]
abbrev p_InvalidStep___init__ : List Str := ["self", "word"]
theorem sc_InvalidStep___init__ : FnScope n_InvalidStep___init__ p_InvalidStep___init__ (defScope s_InvalidStep___init__) := ⟨rfl, rfl, rfl, by decide +kernel, rfl, by decide +kernel, by decide +kernel⟩
abbrev s_InvalidText___init__ : Stmt := inClass (top 7) 0
abbrev n_InvalidText___init__ : List Str := ["self", "at"]
abbrev p_InvalidText___init__ : List Str := ["self", "at"]
theorem sc_InvalidText___init__ : FnScope n_InvalidText___init__ p_InvalidText___init__ (defScope s_InvalidText___init__) := ⟨rfl, rfl, rfl, by decide +kernel, rfl, by decide +kernel, by decide +kernel⟩
abbrev s_NoRow___init__ : Stmt := inClass (top 10) 0
abbrev n_NoRow___init__ : List Str := ["self", "at"]
abbrev p_NoRow___init__ : List Str := ["self", "at"]
theorem sc_NoRow___init__ : FnScope n_NoRow___init__ p_NoRow___init__ (defScope s_NoRow___init__) := ⟨rfl, rfl, rfl, by decide +kernel, rfl, by decide +kernel, by decide +kernel⟩
abbrev s_NoStep___init__ : Stmt := inClass (top 11) 0
abbrev n_NoStep___init__ : List Str := ["self", "at"]
abbrev p_NoStep___init__ : List Str := ["self", "at"]
theorem sc_NoStep___init__ : FnScope n_NoStep___init__ p_NoStep___init__ (defScope s_NoStep___init__) := ⟨rfl, rfl, rfl, by decide +kernel, rfl, by decide +kernel, by decide +kernel⟩
abbrev s_NoColumn___init__ : Stmt := inClass (top 12) 0
abbrev n_NoColumn___init__ : List Str := ["self", "name"]
abbrev p_NoColumn___init__ : List Str := ["self", "name"]
theorem sc_NoColumn___init__ : FnScope n_NoColumn___init__ p_NoColumn___init__ (defScope s_NoColumn___init__) := ⟨rfl, rfl, rfl, by decide +kernel, rfl, by decide +kernel, by decide +kernel⟩
theorem ini_InvalidWays : IniT s_InvalidWays___init__ "word" := ⟨⟨_, _, _, _, rfl⟩, fun _ _ _ _ _ _ _ _ _ _ => rfl, fun _ _ => rfl, fun _ _ _ _ => rfl, fun _ _ _ _ => rfl, fun _ _ _ _ _ _ => rfl, fun _ _ _ _ _ _ => rfl, by decide, fun _ _ _ _ _ _ _ _ _ _ => rfl, rfl, rfl, rfl⟩
theorem ini_InvalidTable : IniT s_InvalidTable___init__ "word" := ⟨⟨_, _, _, _, rfl⟩, fun _ _ _ _ _ _ _ _ _ _ => rfl, fun _ _ => rfl, fun _ _ _ _ => rfl, fun _ _ _ _ => rfl, fun _ _ _ _ _ _ => rfl, fun _ _ _ _ _ _ => rfl, by decide, fun _ _ _ _ _ _ _ _ _ _ => rfl, rfl, rfl, rfl⟩
theorem ini_InvalidTest : IniT s_InvalidTest___init__ "word" := ⟨⟨_, _, _, _, rfl⟩, fun _ _ _ _ _ _ _ _ _ _ => rfl, fun _ _ => rfl, fun _ _ _ _ => rfl, fun _ _ _ _ => rfl, fun _ _ _ _ _ _ => rfl, fun _ _ _ _ _ _ => rfl, by decide, fun _ _ _ _ _ _ _ _ _ _ => rfl, rfl, rfl, rfl⟩
theorem ini_InvalidStep : IniT s_InvalidStep___init__ "word" := ⟨⟨_, _, _, _, rfl⟩, fun _ _ _ _ _ _ _ _ _ _ => rfl, fun _ _ => rfl, fun _ _ _ _ => rfl, fun _ _ _ _ => rfl, fun _ _ _ _ _ _ => rfl, fun _ _ _ _ _ _ => rfl, by decide, fun _ _ _ _ _ _ _ _ _ _ => rfl, rfl, rfl, rfl⟩
theorem ini_InvalidText : IniT s_InvalidText___init__ "at" := ⟨⟨_, _, _, _, rfl⟩, fun _ _ _ _ _ _ _ _ _ _ => rfl, fun _ _ => rfl, fun _ _ _ _ => rfl, fun _ _ _ _ => rfl, fun _ _ _ _ _ _ => rfl, fun _ _ _ _ _ _ => rfl, by decide, fun _ _ _ _ _ _ _ _ _ _ => rfl, rfl, rfl, rfl⟩
theorem ini_NoRow : IniT s_NoRow___init__ "at" := ⟨⟨_, _, _, _, rfl⟩, fun _ _ _ _ _ _ _ _ _ _ => rfl, fun _ _ => rfl, fun _ _ _ _ => rfl, fun _ _ _ _ => rfl, fun _ _ _ _ _ _ => rfl, fun _ _ _ _ _ _ => rfl, by decide, fun _ _ _ _ _ _ _ _ _ _ => rfl, rfl, rfl, rfl⟩
theorem ini_NoStep : IniT s_NoStep___init__ "at" := ⟨⟨_, _, _, _, rfl⟩, fun _ _ _ _ _ _ _ _ _ _ => rfl, fun _ _ => rfl, fun _ _ _ _ => rfl, fun _ _ _ _ => rfl, fun _ _ _ _ _ _ => rfl, fun _ _ _ _ _ _ => rfl, by decide, fun _ _ _ _ _ _ _ _ _ _ => rfl, rfl, rfl, rfl⟩
theorem ini_NoColumn : IniT s_NoColumn___init__ "name" := ⟨⟨_, _, _, _, rfl⟩, fun _ _ _ _ _ _ _ _ _ _ => rfl, fun _ _ => rfl, fun _ _ _ _ => rfl, fun _ _ _ _ => rfl, fun _ _ _ _ _ _ => rfl, fun _ _ _ _ _ _ => rfl, by decide, fun _ _ _ _ _ _ _ _ _ _ => rfl, rfl, rfl, rfl⟩
/-- an exception class, known -/
structure PeG (K : PySem.W.Frag) (mg : Str → Option Value) (x : Str) (C : Addr) (f : Str) : Prop where
  cl : ∃ (qual : Str) (st : Stmt), ExCl K C f qual st
  mg : mg x = some (.ref C)
theorem PeG.kx {x f : Str} {C : Addr} (F : PeG K mg x C f) {X : Cx} (e3 : X.K = K) (e4 : X.mg = mg) (gl : Gl X x) (db : (x == ("__debug__" : Str)) = false) : KxG X x C f := by
  subst e3 e4
  exact ⟨F.cl, F.mg, gl, db⟩
/-- .. of two arguments -/
structure Pe2 (P : Program) (w : World) (K : PySem.W.Frag) (mg : Str → Option Value) (base : Heap) (x : Str) (C : Addr) (f g : Str) (j : Nat) : Prop where
  cl : OexC K C
  ex : ∃ (fI : Addr) (fd : FuncData) (ps : List Str), PySem.W.findIn K (.ref C) "__init__" = some (some (.ref fI)) ∧ PySem.W.typeIn K (.ref fI) = some (.type "function") ∧ FnOk P w K mg base CX0 j fI fd ps (spXc2 C f g) ∧ Binds K fd ps []
  mg : mg x = some (.ref C)
theorem Pe2.kx {x f g : Str} {C : Addr} {j : Nat} (F : Pe2 P w K mg base x C f g j) {X : Cx} (e1 : X.prog = P) (e2 : X.w = w) (e3 : X.K = K) (e4 : X.mg = mg) (e5 : X.base = base) (gl : Gl X x) (db : (x == ("__debug__" : Str)) = false) : Kx2 X x C f g j := by
  subst e1 e2 e3 e4 e5
  exact ⟨F.cl, F.ex, F.mg, gl, db⟩
/-- .. of none -/
structure Pe0 (K : PySem.W.Frag) (mg : Str → Option Value) (x : Str) (C : Addr) : Prop where
  ke : ∀ X : Cx, X.K = K → X.mg = mg → Gl X x → (x == ("__debug__" : Str)) = false → Ke X x C
/-- what K says of them all -/
structure L1 (K : PySem.W.Frag) (mg : Str → Option Value) (c : Fin 8 → Addr) (CR CS CN CP : Addr) : Prop where
  c8 : C8 K mg c
  pInvalidWays : PeG K mg "InvalidWays" (c 0) "word"
  pInvalidTable : PeG K mg "InvalidTable" (c 1) "word"
  pInvalidTest : PeG K mg "InvalidTest" (c 2) "word"
  pInvalidStep : PeG K mg "InvalidStep" (c 3) "word"
  pInvalidText : PeG K mg "InvalidText" (c 5) "at"
  pNoRow : PeG K mg "NoRow" (CR) "at"
  pNoStep : PeG K mg "NoStep" (CS) "at"
  pNoColumn : PeG K mg "NoColumn" (CN) "name"
  pInvalidCommand : Pe0 K mg "InvalidCommand" (c 6)
  pMismatch : Pe0 K mg "Mismatch" (c 7)
  gR : GlD K mg "NoRow" (.own CR)
  gS : GlD K mg "NoStep" (.own CS)
  gP : GlD K mg "PartError" (.own CP)
  xf : ∀ i : Fin 8, XfC K (c i)
  xR : XfC K CR
  xS : XfC K CS
  xN : XfC K CN
  eR : ExcC K CR
  eS : ExcC K CS
  eN : ExcC K CN
  n0 : PySem.W.findIn K (.ref (c 0)) "word" = some none
  n1 : PySem.W.findIn K (.ref (c 1)) "word" = some none
  n2 : PySem.W.findIn K (.ref (c 2)) "word" = some none
  n3 : PySem.W.findIn K (.ref (c 3)) "word" = some none
  n4a : PySem.W.findIn K (.ref (c 4)) "at" = some none
  n4w : PySem.W.findIn K (.ref (c 4)) "word" = some none
  n5 : PySem.W.findIn K (.ref (c 5)) "at" = some none
  nR : PySem.W.findIn K (.ref (CR)) "at" = some none
  nS : PySem.W.findIn K (.ref (CS)) "at" = some none
  nN : PySem.W.findIn K (.ref (CN)) "name" = some none
  kP : ∀ i : Fin 8, PySem.W.kitOne K (.ref (c i)) (.ref CP) = some true
  kV : ∀ i : Fin 8, PySem.W.kitOne K (.ref (c i)) (.type "ValueError") = some true
  kI : ∀ i : Fin 8, PySem.W.kitOne K (.ref (c i)) (.type "IndexError") = some false
  kK : ∀ i : Fin 8, PySem.W.kitOne K (.ref (c i)) (.type "KeyError") = some false
  kRI : PySem.W.kitOne K (.ref CR) (.type "IndexError") = some true
  kSI : PySem.W.kitOne K (.ref CS) (.type "IndexError") = some true
  kNK : PySem.W.kitOne K (.ref CN) (.type "KeyError") = some true
  kRV : PySem.W.kitOne K (.ref CR) (.type "ValueError") = some false
  kSV : PySem.W.kitOne K (.ref CS) (.type "ValueError") = some false
  kNV : PySem.W.kitOne K (.ref CN) (.type "ValueError") = some false
  kRS : PySem.W.kitOne K (.ref CR) (.ref CS) = some false
  kSR : PySem.W.kitOne K (.ref CS) (.ref CR) = some false
def V1 (ns : List Int) (Γ' : Sg) : Prop := ∃ g1 g2 g3 g4 g5 g6 g7 g8 g9 g10 g11 g12 g13 g14 g15 g16 g17 : Option D, Γ' = [some (.scr (ns.map .int)), g1, g2, g3, g4, g5, g6, g7, g8, g9, g10, g11, g12, g13, g14, g15, g16, g17]
theorem rng_el {n i : Nat} {d : D} (h : (rngD 0 n)[i]? = some d) : ∃ j : Nat, d = .int (j : Int) := by
  unfold rngD at h
  rw [List.getElem?_map] at h
  cases e : (List.range n)[i]? with
  | none => rw [e]
        at h; cases h
  | some q =>
    rw [e] at h
    exact ⟨q, by simpa using h.symm⟩
theorem cp_n {n : Nat} : ∀ e ∈ ([] : List D), Cp e n := fun e h => by cases h
theorem cp_c {n : Nat} {d : D} {ds : List D} (h : Cp d n) (hs : ∀ e ∈ ds, Cp e n) : ∀ e ∈ d :: ds, Cp e n := fun e he => by
  rcases List.mem_cons.mp
      he with rfl | he
  · exact h
  · exact hs e he
theorem tym_own {O : Ow} {p : Addr} {ds : List D} {q : Prop} (ho : O p = some (.lst ds)) (h : q) : TyM O (.own p) "list" ∧ q := ⟨.inl ⟨rfl, ds, sq_own ho⟩, h⟩
def FzC (O : Ow) (ds : List D) : Prop := ∃ es, FzEs O ds es ∧ ∀ e ∈ es, Cp e 10
theorem fc_nil {O : Ow} : FzC O [] := ⟨[], .nil, cp_n⟩
theorem fc_own {O : Ow} {p : Addr} {es ds : List D} (ho : O p = some (.lst es)) (h : Cp (.lst es) 10) (t : FzC O ds) : FzC O (.own p :: ds) := by
  obtain ⟨us, f, g⟩ := t
  exact ⟨_, .cons (.own ho (fzEs_same _)) f, cp_c h g⟩
theorem fc_same {O : Ow} {d : D} {ds : List D} (h : Cp d 10) (t : FzC O ds) : FzC O (d :: ds) := by
  obtain ⟨us, f, g⟩ := t
  exact ⟨_, .cons (.same d) f, cp_c h g⟩
theorem wo_neSame {X : Cx} {O : Ow} {k : KD} {ds : List D} (hf : FzC O ds) (hu : X.A.units + 64 < cLine) (h : k (.bl false) O) : WO X (compareOp .NotEq) (.lst ds) (.lst ds) O k := by
  obtain ⟨es, hf, hc⟩ := hf
  have c := cp_lst hc
  refine wo_fzE (.lst hf) (.lst hf) (wo_neD hu c.py c.py (c.shaped (by decide)) (c.shaped (by decide)) ⟨rfl, ?_⟩)
  rw [c.self]
  exact h
section
variable {c : Fin 8 → Addr} {CR CS CN CP : Addr}
theorem enum8 {O : Ow} {ds : List D} {i : Nat} {d : D} (h : ∃ x0 x1 x2 x3 x4 x5 x6 x7, ds = [x0, x1, x2, x3, x4, x5, x6, x7] ∧ XV O (c 0) x0 ∧ XV O (c 1) x1 ∧ XV O (c 2) x2 ∧ XV O (c 3) x3 ∧ XV O (c 4) x4 ∧ XV O (c 5) x5 ∧ XV O (c 6) x6 ∧ XV O (c 7) x7) (hd : (enumD ds)[i]? = some d) :
    ∃ (n : Fin 8) (x : D), d = .tup [.int ((n : Nat) : Int), x] ∧ XV O (c n) x := by
  obtain ⟨x0, x1, x2, x3, x4, x5, x6, x7, rfl, h0, h1, h2, h3, h4, h5, h6, h7⟩ := h
  match i, hd with
  | 0, hd => exact ⟨0, x0, (Option.some.inj hd).symm, h0⟩
  | 1, hd => exact ⟨1, x1, (Option.some.inj hd).symm, h1⟩
  | 2, hd => exact ⟨2, x2, (Option.some.inj hd).symm, h2⟩
  | 3, hd => exact ⟨3, x3, (Option.some.inj hd).symm, h3⟩
  | 4, hd => exact ⟨4, x4, (Option.some.inj hd).symm, h4⟩
  | 5, hd => exact ⟨5, x5, (Option.some.inj hd).symm, h5⟩
  | 6, hd => exact ⟨6, x6, (Option.some.inj hd).symm, h6⟩
  | 7, hd => exact ⟨7, x7, (Option.some.inj hd).symm, h7⟩
  | m + 8, hd => exact absurd hd (by simp [enumD])
theorem inv_keep {Γ0 : Sg} {O0 : Ow} {Φ : (Nat → Sg → Ow → Prop) → Prop} (h : Φ (fun _ Γ' O' => ∃ v15 v16 v17, Γ' = ((Γ0.set 15 v15).set 16 v16).set 17 v17 ∧ O' = O0)) : ∃ I, Φ I := ⟨_, h⟩
theorem bl_map (n : Fin 8) : (List.range 8).map (fun i : Nat => D.bl (decide ((0 + (i : Int)) = ((n : Nat) : Int)))) = bl8 n := by
  match n with
  | 0 => rfl
  | 1 => rfl
  | 2 => rfl
  | 3 => rfl
  | 4 => rfl
  | 5 => rfl
  | 6 => rfl
  | 7 => rfl
theorem fc_bl {O : Ow} {b : Bool} {ds : List D} (t : FzC O ds) : FzC O (.bl b :: ds) := fc_same ⟨rfl, rfl, Nat.zero_le _⟩ t
theorem fc_bl8 {O : Ow} (n : Fin 8) : FzC O (bl8 n) := fc_bl (fc_bl (fc_bl (fc_bl (fc_bl (fc_bl (fc_bl (fc_bl fc_nil)))))))
local macro_rules | `(tactic| walk_at "has") => `(tactic| exact Has.get (by assumption) (by repeat (first | exact List.Mem.head _ | refine List.Mem.tail _ ?_)))
local macro_rules | `(tactic| walk_at "l1.WE") => `(tactic| first
  | ((with_reducible refine' we_gd ?g ?_); (case g => assumption))
  | ((with_reducible refine' we_mkH (j := 3) ?f ?r ?h ?p ?_); (case f => assumption); (case r => exact Room.mono (by assumption) (by decide)); (case h => rfl); (case p => rfl))
  | ((with_reducible refine' we_mk2H ?f ?r ?h ?p ?_ ?z); (case f => assumption); (case r => exact Room.mono (by assumption) (by decide)); (case h => rfl); (case p => rfl); (case z => rfl))
  | ((with_reducible refine' we_mk0H ?f ?_); (case f => assumption))
  | ((with_reducible refine' we_xfV ?b ?_); (case b => rfl)))
local macro_rules | `(tactic| walk_at "l1.WC") => `(tactic| first
  | ((with_reducible refine' wc_isV ?t ?x ?c ?k ?_); (case x => first | assumption | exact XV.fld (by walk_at "has")); (case t => assumption); (case c => first | exact .inl ⟨_, rfl, rfl⟩ | exact .inr ⟨_, rfl, rfl⟩); (case k => assumption)))
local macro_rules | `(tactic| walk_at "l1.o") => `(tactic| first
  | (with_reducible refine' ⟨_, by assumption, fun a dd O' hs => ?_⟩)
  | (with_reducible refine' ⟨_, by assumption, fun a O' hs => ?_⟩)
  | ((with_reducible refine' ⟨_, _, _, _, _, rfl, ?o, ?t, ?n, rfl, ?_⟩); (case o => walk_at "has"); (case t => assumption); (case n => assumption))
  | ((with_reducible refine' sThing_i ?i fun d hd => ?_); (case i => exact ⟨by decide, by decide⟩)))
local macro_rules | `(tactic| walk_at "l1") => `(tactic| first
  | ((with_reducible refine' gq_WE ?_); walk_at "l1.WE")
  | ((with_reducible refine' gq_WC ?_); walk_at "l1.WC")
  | walk_at "l1.o"
  | walk_at "s1")
local macro_rules | `(tactic| walk_at "lv") => `(tactic| repeat' (walk_at "l1"))
local macro_rules | `(tactic| walk_at "fze") => `(tactic| repeat (first | exact fc_nil | refine fc_own (by walk_at "has") (by assumption) ?_ | refine fc_same (by assumption) ?_))
local macro_rules | `(tactic| walk_at "w1") => `(tactic| first
  | ((with_reducible refine' ws_par3 ?c ?x ?y ?z ?n1 ?n2 ?n3 ?lx ?ly ?lz ?w ?s ?_); (case c => rfl); (case x => assumption); (case y => assumption); (case z => assumption); (case n1 => decide); (case n2 => decide); (case n3 => decide); (case lx => rfl); (case ly => rfl); (case lz => rfl); (case w => rfl); (case s => rfl))
  | (with_reducible refine' par3_i ?_)
  | (with_reducible refine' we_lst ?_)
  | ((with_reducible refine' wo_neSame ?f ?u ?_); (case f => walk_at "fze"); (case u => exact Room.units (by assumption)))
  | walk_at "l1")
local macro_rules | `(tactic| walk_at "lw") => `(tactic| repeat' (walk_at "w1"))
set_option maxHeartbeats 3999000 in
theorem pm_law (h_take : Pm P w K mg base "_law_take" 1 sTake) (h_box : Pm P w K mg base "_law_box" 1 sBox) (h_thing : Pm P w K mg base "_law_thing" 5 (sThing 3)) (h_cls : Pm P w K mg base "_law_classes" 1 (sClasses c)) (q : L1 K mg c CR CS CN CP) (h_q : Pe2 P w K mg base "InvalidQuestion" (c 4) "at" "word" 1)
    (b_range : mg "range" = none) (b_max : mg "max" = none) (b_min : mg "min" = none) (b_len : mg "len" = none) (b_isi : mg "isinstance" = none) (b_enum : mg "enumerate" = none) (b_VE : mg "ValueError" = none) (b_IE : mg "IndexError" = none) (b_KE : mg "KeyError" = none) :
    Pl P w K mg base "law" s_law p_law 7 (sLaw 63) := by
  refine Pl.of sc_law (fun ds O k kx h => by obtain ⟨_, h, _⟩ := h; rw [h]; rfl) (fun f cdv A outer s H E hg hr ds O k kx hS => ?_)
  obtain ⟨ns, rfl, hl, hk⟩ := hS
  generalize hbb : defBody s_law = bb
  refine with_va (x := "_law_script") (i := 0) ⟨rfl, by walk_at "vis", by decide, by decide⟩ fun va0 => ?_
  refine with_va (x := "_law_k") (i := 1) ⟨rfl, by walk_at "vis", by decide, by decide⟩ fun va1 => ?_
  refine with_va (x := "_law_box_here") (i := 2) ⟨rfl, by walk_at "vis", by decide, by decide⟩ fun va2 => ?_
  refine with_va (x := "_law_one") (i := 3) ⟨rfl, by walk_at "vis", by decide, by decide⟩ fun va3 => ?_
  refine with_va (x := "_law_other") (i := 4) ⟨rfl, by walk_at "vis", by decide, by decide⟩ fun va4 => ?_
  refine with_va (x := "_law_ways") (i := 5) ⟨rfl, by walk_at "vis", by decide, by decide⟩ fun va5 => ?_
  refine with_va (x := "_law_table") (i := 6) ⟨rfl, by walk_at "vis", by decide, by decide⟩ fun va6 => ?_
  refine with_va (x := "_law_test") (i := 7) ⟨rfl, by walk_at "vis", by decide, by decide⟩ fun va7 => ?_
  refine with_va (x := "_law_step") (i := 8) ⟨rfl, by walk_at "vis", by decide, by decide⟩ fun va8 => ?_
  refine with_va (x := "_law_question") (i := 9) ⟨rfl, by walk_at "vis", by decide, by decide⟩ fun va9 => ?_
  refine with_va (x := "_law_text") (i := 10) ⟨rfl, by walk_at "vis", by decide, by decide⟩ fun va10 => ?_
  refine with_va (x := "_law_row") (i := 11) ⟨rfl, by walk_at "vis", by decide, by decide⟩ fun va11 => ?_
  refine with_va (x := "_law_number") (i := 12) ⟨rfl, by walk_at "vis", by decide, by decide⟩ fun va12 => ?_
  refine with_va (x := "_law_column") (i := 13) ⟨rfl, by walk_at "vis", by decide, by decide⟩ fun va13 => ?_
  refine with_va (x := "_law_made") (i := 14) ⟨rfl, by walk_at "vis", by decide, by decide⟩ fun va14 => ?_
  refine with_va (x := "_law_at") (i := 15) ⟨rfl, by walk_at "vis", by decide, by decide⟩ fun va15 => ?_
  refine with_va (x := "_law_error") (i := 16) ⟨rfl, by walk_at "vis", by decide, by decide⟩ fun va16 => ?_
  refine with_vs (x := "_law_k") (i := 1) ⟨sc_law.nd, rfl, by walk_at "loc", .inl rfl⟩ fun vs1 => ?_
  refine with_vs (x := "_law_box_here") (i := 2) ⟨sc_law.nd, rfl, by walk_at "loc", .inl rfl⟩ fun vs2 => ?_
  refine with_vs (x := "_law_one") (i := 3) ⟨sc_law.nd, rfl, by walk_at "loc", .inl rfl⟩ fun vs3 => ?_
  refine with_vs (x := "_law_other") (i := 4) ⟨sc_law.nd, rfl, by walk_at "loc", .inl rfl⟩ fun vs4 => ?_
  refine with_vs (x := "_law_ways") (i := 5) ⟨sc_law.nd, rfl, by walk_at "loc", .inl rfl⟩ fun vs5 => ?_
  refine with_vs (x := "_law_table") (i := 6) ⟨sc_law.nd, rfl, by walk_at "loc", .inl rfl⟩ fun vs6 => ?_
  refine with_vs (x := "_law_test") (i := 7) ⟨sc_law.nd, rfl, by walk_at "loc", .inl rfl⟩ fun vs7 => ?_
  refine with_vs (x := "_law_step") (i := 8) ⟨sc_law.nd, rfl, by walk_at "loc", .inl rfl⟩ fun vs8 => ?_
  refine with_vs (x := "_law_question") (i := 9) ⟨sc_law.nd, rfl, by walk_at "loc", .inl rfl⟩ fun vs9 => ?_
  refine with_vs (x := "_law_text") (i := 10) ⟨sc_law.nd, rfl, by walk_at "loc", .inl rfl⟩ fun vs10 => ?_
  refine with_vs (x := "_law_row") (i := 11) ⟨sc_law.nd, rfl, by walk_at "loc", .inl rfl⟩ fun vs11 => ?_
  refine with_vs (x := "_law_number") (i := 12) ⟨sc_law.nd, rfl, by walk_at "loc", .inl rfl⟩ fun vs12 => ?_
  refine with_vs (x := "_law_column") (i := 13) ⟨sc_law.nd, rfl, by walk_at "loc", .inl rfl⟩ fun vs13 => ?_
  refine with_vs (x := "_law_made") (i := 14) ⟨sc_law.nd, rfl, by walk_at "loc", .inl rfl⟩ fun vs14 => ?_
  refine with_vs (x := "_law_at") (i := 15) ⟨sc_law.nd, rfl, by walk_at "loc", .inl rfl⟩ fun vs15 => ?_
  refine with_vs (x := "_law_error") (i := 16) ⟨sc_law.nd, rfl, by walk_at "loc", .inl rfl⟩ fun vs16 => ?_
  refine with_bn (x := "max") (id := "max") ⟨rfl, b_max, by decide +kernel, by decide, by decide⟩ fun bn_max => ?_
  refine with_bn (x := "min") (id := "min") ⟨rfl, b_min, by decide +kernel, by decide, by decide⟩ fun bn_min => ?_
  refine with_bn (x := "len") (id := "len") ⟨rfl, b_len, by decide +kernel, by decide, by decide⟩ fun bn_len => ?_
  refine with_bn (x := "isinstance") (id := "isinstance") ⟨rfl, b_isi, by decide +kernel, by decide, by decide⟩ fun bn_isi => ?_
  refine with_bt (x := "ValueError") (T := "ValueError") ⟨rfl, b_VE, by decide +kernel, by decide, by decide⟩ fun bt_VE => ?_
  refine with_bt (x := "IndexError") (T := "IndexError") ⟨rfl, b_IE, by decide +kernel, by decide, by decide⟩ fun bt_IE => ?_
  refine with_bt (x := "KeyError") (T := "KeyError") ⟨rfl, b_KE, by decide +kernel, by decide, by decide⟩ fun bt_KE => ?_
  refine with_kn (h_box.kn rfl rfl rfl rfl rfl rfl (by decide)) fun kn_box => ?_
  refine with_kn (h_thing.kn rfl rfl rfl rfl rfl rfl (by decide)) fun kn_thing => ?_
  refine with_kn (h_cls.kn rfl rfl rfl rfl rfl rfl (by decide)) fun kn_cls => ?_
  refine with_p (h_q.kx (X := Bo P w K mg base n_law "law" s_law f cdv A outer s H E) rfl rfl rfl rfl rfl rfl (by decide)) fun kx_q => ?_
  refine with_p (q.pInvalidWays.kx (X := Bo P w K mg base n_law "law" s_law f cdv A outer s H E) rfl rfl rfl (by decide)) fun kx_InvalidWays => ?_
  refine with_p (q.pInvalidTable.kx (X := Bo P w K mg base n_law "law" s_law f cdv A outer s H E) rfl rfl rfl (by decide)) fun kx_InvalidTable => ?_
  refine with_p (q.pInvalidTest.kx (X := Bo P w K mg base n_law "law" s_law f cdv A outer s H E) rfl rfl rfl (by decide)) fun kx_InvalidTest => ?_
  refine with_p (q.pInvalidStep.kx (X := Bo P w K mg base n_law "law" s_law f cdv A outer s H E) rfl rfl rfl (by decide)) fun kx_InvalidStep => ?_
  refine with_p (q.pInvalidText.kx (X := Bo P w K mg base n_law "law" s_law f cdv A outer s H E) rfl rfl rfl (by decide)) fun kx_InvalidText => ?_
  refine with_p (q.pNoRow.kx (X := Bo P w K mg base n_law "law" s_law f cdv A outer s H E) rfl rfl rfl (by decide)) fun kx_NoRow => ?_
  refine with_p (q.pNoStep.kx (X := Bo P w K mg base n_law "law" s_law f cdv A outer s H E) rfl rfl rfl (by decide)) fun kx_NoStep => ?_
  refine with_p (q.pNoColumn.kx (X := Bo P w K mg base n_law "law" s_law f cdv A outer s H E) rfl rfl rfl (by decide)) fun kx_NoColumn => ?_
  refine with_p (q.pInvalidCommand.ke (Bo P w K mg base n_law "law" s_law f cdv A outer s H E) rfl rfl rfl (by decide)) fun ke_InvalidCommand => ?_
  refine with_p (q.pMismatch.ke (Bo P w K mg base n_law "law" s_law f cdv A outer s H E) rfl rfl rfl (by decide)) fun ke_Mismatch => ?_
  refine with_gd (q.gR.gd rfl rfl rfl (by decide)) fun gd_gR => ?_
  refine with_gd (q.gS.gd rfl rfl rfl (by decide)) fun gd_gS => ?_
  refine with_gd (q.gP.gd rfl rfl rfl (by decide)) fun gd_gP => ?_
  have xf0 := q.xf 0
  have xf1 := q.xf 1
  have xf2 := q.xf 2
  have xf3 := q.xf 3
  have xf4 := q.xf 4
  have xf5 := q.xf 5
  have xR := q.xR
  have xS := q.xS
  have xN := q.xN
  have no0 := q.n0
  have no1 := q.n1
  have no2 := q.n2
  have no3 := q.n3
  have no4a := q.n4a
  have no4w := q.n4w
  have no5 := q.n5
  have noR := q.nR
  have noS := q.nS
  have noN := q.nN
  subst hbb
  walk_at "body"
  (with_reducible refine' ws_cons ?_)
  (with_reducible refine' ws_for PassesOwn.never rfl (fun _ => rfl) ?_)
  (with_reducible refine' it_range1 ?a1 ?b1 ?a2 ?_); (case a1 => rfl); (case b1 => exact b_range); (case a2 => rfl)
  walk_at "lv"
  refine ⟨fun _ Γ' _ => V1 ns Γ', ⟨_, _, _, _, _, _, _, _, _, _, _, _, _, _, _, _, _, rfl⟩, fun i d Γ' O' hd hI => ?_, fun Γ' O' hI => ?_⟩
  rotate_left
  · obtain ⟨g1, g2, g3, g4, g5, g6, g7, g8, g9, g10, g11, g12, g13, g14, g15, g16, g17, rfl⟩ := hI
    walk_at "lv"
    exact Ret.of (hk _)
  obtain ⟨g1, g2, g3, g4, g5, g6, g7, g8, g9, g10, g11, g12, g13, g14, g15, g16, g17, rfl⟩ := hI
  obtain ⟨j, rfl⟩ := rng_el hd
  walk_at "lv"
  refine ⟨ns, j, rfl, ?_⟩
  walk_at "lv"
  rename_i one h1
  refine we_lstO ?_
  walk_at "lv"
  rename_i t ht
  intro p hp
  have hs0 := has_put (v := .lst [t]) (has_nil (O := O')) hp
  generalize put O' p (.lst [t]) = O1 at hs0 ⊢
  clear hp
  have cp1 := h1.mono (show 3 ≤ 10 by decide)
  have cp2 : Cp (.lst [t]) 10 := (cp_lst (cp_c ht cp_n)).mono (by decide)
  have cp3 : Cp (.lst [t, .int 1]) 10 := (cp_lst (cp_c ht (cp_c ⟨rfl, rfl, Nat.zero_le _⟩ cp_n))).mono (by decide)
  walk_at "lw"
  rename_i O2 hs2
  have hop := hs2.get (a := p) (v := .lst [t]) (by repeat (first | exact List.Mem.head _ | refine List.Mem.tail _ ?_))
  ((with_reducible refine' we_bm (T := "list") (id := "list.append") PySem.F.plainAttrs_list PySem.F.slot_list_append PySem.F.type_list_append ?b ?c ?d ?e ?f ?_); (case b => rfl); (case c => rfl); (case d => rfl); (case e => rfl); (case f => rfl))
  walk_at "lv"
  refine tym_own hop ?_
  walk_at "lv"
  refine wm_append hop (by rw [sizeLine_eq]; exact Nat.le_of_ble_eq_true rfl) ?_
  have hs3 := has_set (l := [_, _, _, _, _, _, _, _, _]) (es := [t] ++ [.int 1]) hs2 (fun x hx => by
    simp only [List.mem_cons,
        List.not_mem_nil, or_false] at hx
    rcases hx with rfl | rfl | rfl | rfl | rfl | rfl | rfl | rfl | rfl <;> exact ⟨_, _, rfl⟩)
  generalize put O2 p (.lst ([t] ++ [.int 1])) = O3 at hs3 ⊢
  clear hop hs2
  walk_at "lw"
  refine wo_rep (by decide) (by decide) (by rw [sizeLine_eq]; exact Nat.le_of_ble_eq_true rfl) ?_
  simp only [List.cons_append, List.nil_append] at hs3
  rw [show (List.replicate (Int.toNat 6) [D.own p]).flatten = [.own p, .own p, .own p, .own p, .own p, .own p] from rfl]
  walk_at "lw"
  rename_i a7 O8 hs8
  refine ws_for PassesOwn.never rfl (fun _ => rfl) ?_
  refine it_enum rfl b_enum rfl ?_
  walk_at "lv"
  refine ⟨_, .inl rfl, ?_⟩
  refine inv_keep (Γ0 := [_, _, _, _, _, _, _, _, _, _, _, _, _, _, _, none, none, none]) (O0 := O8) ⟨⟨_, _, _, rfl, rfl⟩, fun i d Γ' O' hd8 hI => ?_, fun Γ' O' hI => ?_⟩
  · obtain ⟨v15, v16, v17, rfl, rfl⟩ := hI
    obtain ⟨n, x, rfl, hx⟩ := enum8 (c := c) (O := O') ⟨_, _, _, _, _, _, _, _, rfl, .fld (by walk_at "has"), .fld (by walk_at "has"), .fld (by walk_at "has"), .fld (by walk_at "has"), .fld (by walk_at "has"), .fld (by walk_at "has"), .bare (by walk_at "has"), .bare (by walk_at "has")⟩ hd8
    have qe := q.c8.ex n
    have qP := q.kP n
    have qV := q.kV n
    have qI := q.kI n
    have qK := q.kK n
    walk_at "lv"
    refine ⟨x, n, rfl, hx, ?_⟩
    refine we_lc [("_law_spot", 17)] (.nm 17) rfl sc_law.nd rfl (.inl rfl) (fun _ => rfl) (fun s0 H0 C0 cl0 fp0 => pg_name (i := 17) sc_law.nd rfl (Or.inl rfl) (Or.inr rfl)) (by decide) ?_
    refine it_range1 rfl b_range rfl ?_
    iterate 3 (walk_at "l1")
    refine ⟨_, rfl, by decide, by decide, ?_⟩
    refine lc_mapL (List.range 8) (fun i : Nat => .int (0 + (i : Int))) (fun i : Nat => .bl (decide ((0 + (i : Int)) = ((n : Nat) : Int)))) (by decide) (fun i hi O2 ag => ⟨_, rfl, fun s0 H0 C0 cl0 fp0 => ?_⟩) ?_
    · refine e_va (x := "_law_spot") (i := 17) ⟨rfl, by walk_at "vis", by decide, by decide⟩ fun va17 => ?_
      refine e_va (x := "_law_at") (i := 15) ⟨rfl, by walk_at "vis", by decide, by decide⟩ fun va15 => ?_
      walk_at "lv"
      exact ⟨rfl, rfl⟩
    rw [bl_map]
    refine wo_neSame (fc_bl8 n) (Room.units hr) ?_
    walk_at "lv"
    exact ⟨_, _, _, rfl, rfl⟩
  · obtain ⟨v15, v16, v17, rfl, rfl⟩ := hI
    have eR := q.eR
    have eS := q.eS
    have eN := q.eN
    have kRI := q.kRI
    have kSI := q.kSI
    have kNK := q.kNK
    have kRV := q.kRV
    have kSV := q.kSV
    have kNV := q.kNV
    have kRS := q.kRS
    have kSR := q.kSR
    walk_at "lv"
    refine we_lc [("_law_error", 16)] (.nm 16) rfl sc_law.nd rfl (.inr ⟨_, rfl⟩) (fun _ => rfl) (fun s0 H0 C0 cl0 fp0 => pg_name (i := 16) sc_law.nd rfl (Or.inl rfl) (Or.inr rfl)) (by decide) ?_
    refine it_tup ?_
    walk_at "lv"
    refine ⟨fun _ acc => acc = [], rfl, fun i d acc hd9 ha O2 ag => ?_, fun acc ha => ?_⟩
    · subst ha
      obtain ⟨C, hx, hC, hk9⟩ : ∃ C, XV O2 C d ∧ ExcC K C ∧ PySem.W.kitOne K (.ref C) (.type "ValueError") = some false := by
        match i, hd9 with
        | 0, hd9 => exact ⟨CR, (Option.some.inj hd9) ▸ .fld (ag _ _ (by walk_at "has")), eR, kRV⟩
        | 1, hd9 => exact ⟨CS, (Option.some.inj hd9) ▸ .fld (ag _ _ (by walk_at "has")), eS, kSV⟩
        | 2, hd9 => exact ⟨CN, (Option.some.inj hd9) ▸ .fld (ag _ _ (by walk_at "has")), eN, kNV⟩
        | m + 3, hd9 => exact absurd hd9 (by simp)
      refine ⟨_, rfl, fun s0 H0 C0 cl0 fp0 => ?_⟩
      refine wt_val (fun _ => rfl) ?_
      refine e_va (x := "_law_error") (i := 16) ⟨rfl, by walk_at "vis", by decide, by decide⟩ fun va16 => ?_
      refine e_bn (x := "isinstance") (id := "isinstance") ⟨rfl, b_isi, by decide +kernel, by decide, by decide⟩ fun bn_isi => ?_
      refine e_bt (x := "ValueError") (T := "ValueError") ⟨rfl, b_VE, by decide +kernel, by decide, by decide⟩ fun bt_VE => ?_
      walk_at "lv"
      exact ⟨rfl, rfl⟩
    subst ha
    walk_at "lw"
    exact ⟨_, _, _, _, _, _, _, _, _, _, _, _, _, _, _, _, _, rfl⟩
end
/-! ### what the ends need -/
theorem cls_some {K : PySem.W.Frag} {C : Addr} (h : PySem.W.isClsIn K C = true) : (PySem.W.clsIn K C).isSome = true := h
theorem kit_cls2 {K : PySem.W.Frag} {C D : Addr} {b : Bool} (ic : PySem.W.isClsIn K D = true) (t : PySem.W.typeIn K (.ref D) = some (.type "type")) (s : PySem.W.subIn K (.ref C) (.ref D) = some b) : PySem.W.kitCls K (.ref C) (.ref D) = some b := by
  unfold PySem.W.kitCls
  simp only []
  rw [cls_some ic, t, if_pos (by decide)]
  exact s
theorem kit_yes {K : PySem.W.Frag} {C D : Addr} (ic : PySem.W.isClsIn K D = true) (t : PySem.W.typeIn K (.ref D) = some (.type "type")) (s : PySem.W.subIn K (.ref C) (.ref D) = some true) : PySem.W.kitOne K (.ref C) (.ref D) = some true := by
  unfold PySem.W.kitOne
  split
  · rfl
  · exact kit_cls2 ic t s
theorem kit_no {K : PySem.W.Frag} {C D : Addr} (ss : PySem.W.subIn K (.ref D) (.ref D) = some true) (ic : PySem.W.isClsIn K D = true) (t : PySem.W.typeIn K (.ref D) = some (.type "type")) (s : PySem.W.subIn K (.ref C) (.ref D) = some false) : PySem.W.kitOne K (.ref C) (.ref D) = some false := by
  unfold PySem.W.kitOne
  have e : (Value.ref C == Value.ref D) = false := by
    cases h : (Value.ref C == Value.ref D) with
    | false => rfl
    | true =>
      have e2 : C = D := by
        have := eq_of_beq h
        cases this
        rfl
      rw [e2, ss] at s
      cases s
  rw [e, if_neg (by decide)]
  exact kit_cls2 ic t s
theorem kit_self {K : PySem.W.Frag} {C : Addr} : PySem.W.kitOne K (.ref C) (.ref C) = some true := by
  unfold PySem.W.kitOne
  exact if_pos (beq_self_eq_true
      _)
theorem kit_ty {K : PySem.W.Frag} {T : String} {C : Addr} {b : Bool} (m : PySem.W.kitMeta T = true) (s : PySem.W.subIn K (.ref C) (.type T) = some b) : PySem.W.kitOne K (.ref C) (.type T) = some b := by
  unfold PySem.W.kitOne
  have e : (Value.ref C == Value.type T) = false := rfl
  rw [e, if_neg (by decide)]
  unfold PySem.W.kitCls
  simp only []
  rw [if_pos m]
  exact s
theorem all8 {p : Fin 8 → Prop} (h0 : p 0) (h1 : p 1) (h2 : p 2) (h3 : p 3) (h4 : p 4) (h5 : p 5) (h6 : p 6) (h7 : p 7) : ∀ i, p i := fun i => match i with
  | 0 => h0
  | 1 => h1
  | 2 => h2
  | 3 => h3
  | 4 => h4
  | 5 => h5
  | 6 => h6
  | 7 => h7
def c8f (a0 a1 a2 a3 a4 a5 a6 a7 : Addr) : Fin 8 → Addr := fun i => match i with
  | 0 => a0
  | 1 => a1
  | 2 => a2
  | 3 => a3
  | 4 => a4
  | 5 => a5
  | 6 => a6
  | 7 => a7
inductive DnE (K : PySem.W.Frag) (C : Addr) (qual : Str) (st : Stmt) : Prop
  | mk {f : Addr} {oc : Value} {od an : Option Addr} {osl : Array (Option Value)} {kV doc pm cdv ct : Value} (a : PySem.W.findIn K (.ref C) "__init__" = some (some (.ref f))) (t : PySem.W.typeIn K (.ref f) = some (.type "function"))
    (l : K.lookup f = some ⟨oc, od, .func (PySem.W.fnOf "__init__" qual (defArgs st) (defBody st) (defScope st) .none kV doc pm an cdv ct), osl⟩) (c : PySem.W.codeIn K cdv qual = true) (k : PySem.W.keepIn K (.ref f) = true) : DnE K C qual st
theorem pe_g {K : PySem.W.Frag} {mg : Str → Option Value} {x f qual : Str} {C : Addr} {st : Stmt} (e : ExCl K C f qual st) (hx : mg x = some (.ref C)) : PeG K mg x C f := ⟨⟨_, _, e⟩, hx⟩
theorem pe_0 {K : PySem.W.Frag} {mg : Str → Option Value} {x : Str} {C : Addr} (e : ∃ (bmB : List Value) (B newId initId : String), ExcBaseFacts B newId initId bmB ∧ PySem.W.excIn K C bmB newId = true) (k : PySem.W.keepIn K (.ref C) = true) (xx : PySem.W.subIn K (.ref C) (.type "BaseException") = some true) (t : PySem.W.typeIn K (.ref C) = some (.type "type")) (hx : mg x = some (.ref C)) : Pe0 K mg x C :=
  ⟨fun X e1 e2 gl db => by
    subst e1 e2
    exact ⟨e, k, xx, t, hx, gl, db⟩⟩
section
variable {base : Heap} {mg : Str → Option Value} {K : PySem.W.Frag} {w : World} {P : Program}
theorem pe2_of {x f g qual : Str} {C : Addr} {st : Stmt} {ps : List Str} {j : Nat} (e : OexC K C) (d : DnE K C qual st) (hx : mg x = some (.ref C))
    (ok : ∀ (fI : Addr) (fd : FuncData), L2.Fun K "__init__" qual st fI fd → FnOk P w K mg base CX0 j fI fd ps (spXc2 C f g))
    (b : ∀ (kV doc pm : Value) (an : Option Addr) (cdv ct : Value) (us : List Value), us.length = ps.length → bindArgs (PySem.W.fnOf "__init__" qual (defArgs st) (defBody st) (defScope st) .none kV doc pm an cdv ct) ⟨us, []⟩ = pure (ps.zip us)) : Pe2 P w K mg base x C f g j := by
  cases d with
  | mk a t l c k =>
    have F := fun_mk (st := st) l c k
    exact ⟨e, ⟨_, _, ps, a, t, ok _ _ F, F.binds b⟩, hx⟩
end
/-! ### all together -/
theorem all1 {l : PySem.W.OpenLaw} {w : World} {K : PySem.W.Frag} {h : Heap} {mg : Str → Option Value} {fa CP C0 C1 C2 C3 C4 C5 C6 C7 CR CS CN : Addr} (X : K.In h) (G : h.Ns mainGlobals mg) (hfa : mg "law" = some (.ref fa))
    (d_law_take : Dn K "_law_take" s__law_take)
    (d_law_box : Dn K "_law_box" s__law_box)
    (d_law_thing : Dn K "_law_thing" s__law_thing)
    (d_law_classes : Dn K "_law_classes" s__law_classes)
    (d_law : Dn K "law" s_law)
    (z_range : PySem.W.nsIn K mainGlobals "range" = some none)
    (z_tuple : PySem.W.nsIn K mainGlobals "tuple" = some none)
    (z_max : PySem.W.nsIn K mainGlobals "max" = some none)
    (z_min : PySem.W.nsIn K mainGlobals "min" = some none)
    (z_len : PySem.W.nsIn K mainGlobals "len" = some none)
    (z_int : PySem.W.nsIn K mainGlobals "int" = some none)
    (z_abs : PySem.W.nsIn K mainGlobals "abs" = some none)
    (z_isinstance : PySem.W.nsIn K mainGlobals "isinstance" = some none)
    (z_enumerate : PySem.W.nsIn K mainGlobals "enumerate" = some none)
    (z_ValueError : PySem.W.nsIn K mainGlobals "ValueError" = some none)
    (z_IndexError : PySem.W.nsIn K mainGlobals "IndexError" = some none)
    (z_KeyError : PySem.W.nsIn K mainGlobals "KeyError" = some none)
    (aP : PySem.W.nsIn K mainGlobals "PartError" = some (some (.ref CP)))
    (icP : PySem.W.isClsIn K CP = true)
    (tP : PySem.W.typeIn K (.ref CP) = some (.type "type"))
    (a0 : PySem.W.nsIn K mainGlobals "InvalidWays" = some (some (.ref C0)))
    (a1 : PySem.W.nsIn K mainGlobals "InvalidTable" = some (some (.ref C1)))
    (a2 : PySem.W.nsIn K mainGlobals "InvalidTest" = some (some (.ref C2)))
    (a3 : PySem.W.nsIn K mainGlobals "InvalidStep" = some (some (.ref C3)))
    (a4 : PySem.W.nsIn K mainGlobals "InvalidQuestion" = some (some (.ref C4)))
    (a5 : PySem.W.nsIn K mainGlobals "InvalidText" = some (some (.ref C5)))
    (a6 : PySem.W.nsIn K mainGlobals "InvalidCommand" = some (some (.ref C6)))
    (a7 : PySem.W.nsIn K mainGlobals "Mismatch" = some (some (.ref C7)))
    (aR : PySem.W.nsIn K mainGlobals "NoRow" = some (some (.ref CR)))
    (aS : PySem.W.nsIn K mainGlobals "NoStep" = some (some (.ref CS)))
    (aN : PySem.W.nsIn K mainGlobals "NoColumn" = some (some (.ref CN)))
    (E0 : ExCl K C0 "word" "InvalidWays.__init__" s_InvalidWays___init__)
    (f0 : XfC K C0)
    (x0 : ExcC K C0)
    (ic0 : PySem.W.isClsIn K C0 = true)
    (t0 : PySem.W.typeIn K (.ref C0) = some (.type "type"))
    (ss0 : PySem.W.subIn K (.ref C0) (.ref C0) = some true)
    (p0 : PySem.W.subIn K (.ref C0) (.ref CP) = some true)
    (v0 : PySem.W.subIn K (.ref C0) (.type "ValueError") = some true)
    (i0 : PySem.W.subIn K (.ref C0) (.type "IndexError") = some false)
    (k0 : PySem.W.subIn K (.ref C0) (.type "KeyError") = some false)
    (E1 : ExCl K C1 "word" "InvalidTable.__init__" s_InvalidTable___init__)
    (f1 : XfC K C1)
    (x1 : ExcC K C1)
    (ic1 : PySem.W.isClsIn K C1 = true)
    (t1 : PySem.W.typeIn K (.ref C1) = some (.type "type"))
    (ss1 : PySem.W.subIn K (.ref C1) (.ref C1) = some true)
    (p1 : PySem.W.subIn K (.ref C1) (.ref CP) = some true)
    (v1 : PySem.W.subIn K (.ref C1) (.type "ValueError") = some true)
    (i1 : PySem.W.subIn K (.ref C1) (.type "IndexError") = some false)
    (k1 : PySem.W.subIn K (.ref C1) (.type "KeyError") = some false)
    (E2 : ExCl K C2 "word" "InvalidTest.__init__" s_InvalidTest___init__)
    (f2 : XfC K C2)
    (x2 : ExcC K C2)
    (ic2 : PySem.W.isClsIn K C2 = true)
    (t2 : PySem.W.typeIn K (.ref C2) = some (.type "type"))
    (ss2 : PySem.W.subIn K (.ref C2) (.ref C2) = some true)
    (p2 : PySem.W.subIn K (.ref C2) (.ref CP) = some true)
    (v2 : PySem.W.subIn K (.ref C2) (.type "ValueError") = some true)
    (i2 : PySem.W.subIn K (.ref C2) (.type "IndexError") = some false)
    (k2 : PySem.W.subIn K (.ref C2) (.type "KeyError") = some false)
    (E3 : ExCl K C3 "word" "InvalidStep.__init__" s_InvalidStep___init__)
    (f3 : XfC K C3)
    (x3 : ExcC K C3)
    (ic3 : PySem.W.isClsIn K C3 = true)
    (t3 : PySem.W.typeIn K (.ref C3) = some (.type "type"))
    (ss3 : PySem.W.subIn K (.ref C3) (.ref C3) = some true)
    (p3 : PySem.W.subIn K (.ref C3) (.ref CP) = some true)
    (v3 : PySem.W.subIn K (.ref C3) (.type "ValueError") = some true)
    (i3 : PySem.W.subIn K (.ref C3) (.type "IndexError") = some false)
    (k3 : PySem.W.subIn K (.ref C3) (.type "KeyError") = some false)
    (f4 : XfC K C4)
    (x4 : ExcC K C4)
    (ic4 : PySem.W.isClsIn K C4 = true)
    (t4 : PySem.W.typeIn K (.ref C4) = some (.type "type"))
    (ss4 : PySem.W.subIn K (.ref C4) (.ref C4) = some true)
    (p4 : PySem.W.subIn K (.ref C4) (.ref CP) = some true)
    (v4 : PySem.W.subIn K (.ref C4) (.type "ValueError") = some true)
    (i4 : PySem.W.subIn K (.ref C4) (.type "IndexError") = some false)
    (k4 : PySem.W.subIn K (.ref C4) (.type "KeyError") = some false)
    (E5 : ExCl K C5 "at" "InvalidText.__init__" s_InvalidText___init__)
    (f5 : XfC K C5)
    (x5 : ExcC K C5)
    (ic5 : PySem.W.isClsIn K C5 = true)
    (t5 : PySem.W.typeIn K (.ref C5) = some (.type "type"))
    (ss5 : PySem.W.subIn K (.ref C5) (.ref C5) = some true)
    (p5 : PySem.W.subIn K (.ref C5) (.ref CP) = some true)
    (v5 : PySem.W.subIn K (.ref C5) (.type "ValueError") = some true)
    (i5 : PySem.W.subIn K (.ref C5) (.type "IndexError") = some false)
    (k5 : PySem.W.subIn K (.ref C5) (.type "KeyError") = some false)
    (f6 : XfC K C6)
    (x6 : ExcC K C6)
    (ic6 : PySem.W.isClsIn K C6 = true)
    (t6 : PySem.W.typeIn K (.ref C6) = some (.type "type"))
    (ss6 : PySem.W.subIn K (.ref C6) (.ref C6) = some true)
    (p6 : PySem.W.subIn K (.ref C6) (.ref CP) = some true)
    (v6 : PySem.W.subIn K (.ref C6) (.type "ValueError") = some true)
    (i6 : PySem.W.subIn K (.ref C6) (.type "IndexError") = some false)
    (k6 : PySem.W.subIn K (.ref C6) (.type "KeyError") = some false)
    (f7 : XfC K C7)
    (x7 : ExcC K C7)
    (ic7 : PySem.W.isClsIn K C7 = true)
    (t7 : PySem.W.typeIn K (.ref C7) = some (.type "type"))
    (ss7 : PySem.W.subIn K (.ref C7) (.ref C7) = some true)
    (p7 : PySem.W.subIn K (.ref C7) (.ref CP) = some true)
    (v7 : PySem.W.subIn K (.ref C7) (.type "ValueError") = some true)
    (i7 : PySem.W.subIn K (.ref C7) (.type "IndexError") = some false)
    (k7 : PySem.W.subIn K (.ref C7) (.type "KeyError") = some false)
    (ER : ExCl K CR "at" "NoRow.__init__" s_NoRow___init__)
    (fR : XfC K CR)
    (xR : ExcC K CR)
    (icR : PySem.W.isClsIn K CR = true)
    (tR : PySem.W.typeIn K (.ref CR) = some (.type "type"))
    (ssR : PySem.W.subIn K (.ref CR) (.ref CR) = some true)
    (vR : PySem.W.subIn K (.ref CR) (.type "ValueError") = some false)
    (iR : PySem.W.subIn K (.ref CR) (.type "IndexError") = some true)
    (ES : ExCl K CS "at" "NoStep.__init__" s_NoStep___init__)
    (fS : XfC K CS)
    (xS : ExcC K CS)
    (icS : PySem.W.isClsIn K CS = true)
    (tS : PySem.W.typeIn K (.ref CS) = some (.type "type"))
    (ssS : PySem.W.subIn K (.ref CS) (.ref CS) = some true)
    (vS : PySem.W.subIn K (.ref CS) (.type "ValueError") = some false)
    (iS : PySem.W.subIn K (.ref CS) (.type "IndexError") = some true)
    (EN : ExCl K CN "name" "NoColumn.__init__" s_NoColumn___init__)
    (fN : XfC K CN)
    (xN : ExcC K CN)
    (icN : PySem.W.isClsIn K CN = true)
    (tN : PySem.W.typeIn K (.ref CN) = some (.type "type"))
    (ssN : PySem.W.subIn K (.ref CN) (.ref CN) = some true)
    (vN : PySem.W.subIn K (.ref CN) (.type "ValueError") = some false)
    (kN : PySem.W.subIn K (.ref CN) (.type "KeyError") = some true)
    (o4 : OexC K C4)
    (dE4 : DnE K C4 "InvalidQuestion.__init__" s_InvalidQuestion___init__)
    (e6 : ∃ (bmB : List Value) (B newId initId : String), ExcBaseFacts B newId initId bmB ∧ PySem.W.excIn K C6 bmB newId = true)
    (kp6 : PySem.W.keepIn K (.ref C6) = true)
    (be6 : PySem.W.subIn K (.ref C6) (.type "BaseException") = some true)
    (e7 : ∃ (bmB : List Value) (B newId initId : String), ExcBaseFacts B newId initId bmB ∧ PySem.W.excIn K C7 bmB newId = true)
    (kp7 : PySem.W.keepIn K (.ref C7) = true)
    (be7 : PySem.W.subIn K (.ref C7) (.type "BaseException") = some true)
    (n0 : PySem.W.findIn K (.ref C0) "word" = some none)
    (n1 : PySem.W.findIn K (.ref C1) "word" = some none)
    (n2 : PySem.W.findIn K (.ref C2) "word" = some none)
    (n3 : PySem.W.findIn K (.ref C3) "word" = some none)
    (n4a : PySem.W.findIn K (.ref C4) "at" = some none)
    (n4w : PySem.W.findIn K (.ref C4) "word" = some none)
    (n5 : PySem.W.findIn K (.ref C5) "at" = some none)
    (nR : PySem.W.findIn K (.ref CR) "at" = some none)
    (nS : PySem.W.findIn K (.ref CS) "at" = some none)
    (nN : PySem.W.findIn K (.ref CN) "name" = some none)
    (s0_1 : PySem.W.subIn K (.ref C0) (.ref C1) = some false)
    (s0_2 : PySem.W.subIn K (.ref C0) (.ref C2) = some false)
    (s0_3 : PySem.W.subIn K (.ref C0) (.ref C3) = some false)
    (s0_4 : PySem.W.subIn K (.ref C0) (.ref C4) = some false)
    (s0_5 : PySem.W.subIn K (.ref C0) (.ref C5) = some false)
    (s0_6 : PySem.W.subIn K (.ref C0) (.ref C6) = some false)
    (s0_7 : PySem.W.subIn K (.ref C0) (.ref C7) = some false)
    (s1_0 : PySem.W.subIn K (.ref C1) (.ref C0) = some false)
    (s1_2 : PySem.W.subIn K (.ref C1) (.ref C2) = some false)
    (s1_3 : PySem.W.subIn K (.ref C1) (.ref C3) = some false)
    (s1_4 : PySem.W.subIn K (.ref C1) (.ref C4) = some false)
    (s1_5 : PySem.W.subIn K (.ref C1) (.ref C5) = some false)
    (s1_6 : PySem.W.subIn K (.ref C1) (.ref C6) = some false)
    (s1_7 : PySem.W.subIn K (.ref C1) (.ref C7) = some false)
    (s2_0 : PySem.W.subIn K (.ref C2) (.ref C0) = some false)
    (s2_1 : PySem.W.subIn K (.ref C2) (.ref C1) = some false)
    (s2_3 : PySem.W.subIn K (.ref C2) (.ref C3) = some false)
    (s2_4 : PySem.W.subIn K (.ref C2) (.ref C4) = some false)
    (s2_5 : PySem.W.subIn K (.ref C2) (.ref C5) = some false)
    (s2_6 : PySem.W.subIn K (.ref C2) (.ref C6) = some false)
    (s2_7 : PySem.W.subIn K (.ref C2) (.ref C7) = some false)
    (s3_0 : PySem.W.subIn K (.ref C3) (.ref C0) = some false)
    (s3_1 : PySem.W.subIn K (.ref C3) (.ref C1) = some false)
    (s3_2 : PySem.W.subIn K (.ref C3) (.ref C2) = some false)
    (s3_4 : PySem.W.subIn K (.ref C3) (.ref C4) = some false)
    (s3_5 : PySem.W.subIn K (.ref C3) (.ref C5) = some false)
    (s3_6 : PySem.W.subIn K (.ref C3) (.ref C6) = some false)
    (s3_7 : PySem.W.subIn K (.ref C3) (.ref C7) = some false)
    (s4_0 : PySem.W.subIn K (.ref C4) (.ref C0) = some false)
    (s4_1 : PySem.W.subIn K (.ref C4) (.ref C1) = some false)
    (s4_2 : PySem.W.subIn K (.ref C4) (.ref C2) = some false)
    (s4_3 : PySem.W.subIn K (.ref C4) (.ref C3) = some false)
    (s4_5 : PySem.W.subIn K (.ref C4) (.ref C5) = some false)
    (s4_6 : PySem.W.subIn K (.ref C4) (.ref C6) = some false)
    (s4_7 : PySem.W.subIn K (.ref C4) (.ref C7) = some false)
    (s5_0 : PySem.W.subIn K (.ref C5) (.ref C0) = some false)
    (s5_1 : PySem.W.subIn K (.ref C5) (.ref C1) = some false)
    (s5_2 : PySem.W.subIn K (.ref C5) (.ref C2) = some false)
    (s5_3 : PySem.W.subIn K (.ref C5) (.ref C3) = some false)
    (s5_4 : PySem.W.subIn K (.ref C5) (.ref C4) = some false)
    (s5_6 : PySem.W.subIn K (.ref C5) (.ref C6) = some false)
    (s5_7 : PySem.W.subIn K (.ref C5) (.ref C7) = some false)
    (s6_0 : PySem.W.subIn K (.ref C6) (.ref C0) = some false)
    (s6_1 : PySem.W.subIn K (.ref C6) (.ref C1) = some false)
    (s6_2 : PySem.W.subIn K (.ref C6) (.ref C2) = some false)
    (s6_3 : PySem.W.subIn K (.ref C6) (.ref C3) = some false)
    (s6_4 : PySem.W.subIn K (.ref C6) (.ref C4) = some false)
    (s6_5 : PySem.W.subIn K (.ref C6) (.ref C5) = some false)
    (s6_7 : PySem.W.subIn K (.ref C6) (.ref C7) = some false)
    (s7_0 : PySem.W.subIn K (.ref C7) (.ref C0) = some false)
    (s7_1 : PySem.W.subIn K (.ref C7) (.ref C1) = some false)
    (s7_2 : PySem.W.subIn K (.ref C7) (.ref C2) = some false)
    (s7_3 : PySem.W.subIn K (.ref C7) (.ref C3) = some false)
    (s7_4 : PySem.W.subIn K (.ref C7) (.ref C4) = some false)
    (s7_5 : PySem.W.subIn K (.ref C7) (.ref C5) = some false)
    (s7_6 : PySem.W.subIn K (.ref C7) (.ref C6) = some false)
    (sRS : PySem.W.subIn K (.ref CR) (.ref CS) = some false)
    (sSR : PySem.W.subIn K (.ref CS) (.ref CR) = some false)
    : ∃ fd : FuncData, (∀ (s : Shared) (u : Value), BindsTo s fd ⟨[u], []⟩ [("_law_script", u)]) ∧ ∀ base : Heap, K.In base → base.Ns mainGlobals mg → FnG l.prog w K mg base CX0 7 fa fd ["_law_script"] (spOf K (sLaw 63)) := by
  have b_range := PySem.W.mg_none_of X G z_range
  have b_tuple := PySem.W.mg_none_of X G z_tuple
  have b_max := PySem.W.mg_none_of X G z_max
  have b_min := PySem.W.mg_none_of X G z_min
  have b_len := PySem.W.mg_none_of X G z_len
  have b_int := PySem.W.mg_none_of X G z_int
  have b_abs := PySem.W.mg_none_of X G z_abs
  have b_isinstance := PySem.W.mg_none_of X G z_isinstance
  have b_enumerate := PySem.W.mg_none_of X G z_enumerate
  have b_ValueError := PySem.W.mg_none_of X G z_ValueError
  have b_IndexError := PySem.W.mg_none_of X G z_IndexError
  have b_KeyError := PySem.W.mg_none_of X G z_KeyError
  have e_law_take := d_law_take.df X G (ps := p__law_take) fun _ _ _ _ _ _ us hl => match us, hl with | [_, _], _ => rfl
  have e_law_box := d_law_box.df X G (ps := p__law_box) fun _ _ _ _ _ _ us hl => match us, hl with | [_, _], _ => rfl
  have e_law_thing := d_law_thing.df X G (ps := p__law_thing) fun _ _ _ _ _ _ us hl => match us, hl with | [_, _], _ => rfl
  have e_law_classes := d_law_classes.df X G (ps := p__law_classes) fun _ _ _ _ _ _ us hl => match us, hl with | [_], _ => rfl
  refine law_end X G hfa d_law (fun _ _ _ _ _ _ _ => rfl) fun base _ _ => ?_
  have h_take : Pm l.prog w K mg base "_law_take" 1 sTake := pm_take e_law_take b_int
  have h_box : Pm l.prog w K mg base "_law_box" 1 sBox := pm_box e_law_box b_int b_len b_abs
  have h_thing : Pm l.prog w K mg base "_law_thing" 5 (sThing 3) := pm_thing e_law_thing h_take b_range b_tuple 3 (by decide)
  let c := c8f C0 C1 C2 C3 C4 C5 C6 C7
  have kit0 : ∀ j, PySem.W.kitOne K (.ref C0) (.ref (c j)) = some (decide (j = (0 : Fin 8))) := all8 kit_self (kit_no ss1 ic1 t1 s0_1) (kit_no ss2 ic2 t2 s0_2) (kit_no ss3 ic3 t3 s0_3) (kit_no ss4 ic4 t4 s0_4) (kit_no ss5 ic5 t5 s0_5) (kit_no ss6 ic6 t6 s0_6) (kit_no ss7 ic7 t7 s0_7)
  have kit1 : ∀ j, PySem.W.kitOne K (.ref C1) (.ref (c j)) = some (decide (j = (1 : Fin 8))) := all8 (kit_no ss0 ic0 t0 s1_0) kit_self (kit_no ss2 ic2 t2 s1_2) (kit_no ss3 ic3 t3 s1_3) (kit_no ss4 ic4 t4 s1_4) (kit_no ss5 ic5 t5 s1_5) (kit_no ss6 ic6 t6 s1_6) (kit_no ss7 ic7 t7 s1_7)
  have kit2 : ∀ j, PySem.W.kitOne K (.ref C2) (.ref (c j)) = some (decide (j = (2 : Fin 8))) := all8 (kit_no ss0 ic0 t0 s2_0) (kit_no ss1 ic1 t1 s2_1) kit_self (kit_no ss3 ic3 t3 s2_3) (kit_no ss4 ic4 t4 s2_4) (kit_no ss5 ic5 t5 s2_5) (kit_no ss6 ic6 t6 s2_6) (kit_no ss7 ic7 t7 s2_7)
  have kit3 : ∀ j, PySem.W.kitOne K (.ref C3) (.ref (c j)) = some (decide (j = (3 : Fin 8))) := all8 (kit_no ss0 ic0 t0 s3_0) (kit_no ss1 ic1 t1 s3_1) (kit_no ss2 ic2 t2 s3_2) kit_self (kit_no ss4 ic4 t4 s3_4) (kit_no ss5 ic5 t5 s3_5) (kit_no ss6 ic6 t6 s3_6) (kit_no ss7 ic7 t7 s3_7)
  have kit4 : ∀ j, PySem.W.kitOne K (.ref C4) (.ref (c j)) = some (decide (j = (4 : Fin 8))) := all8 (kit_no ss0 ic0 t0 s4_0) (kit_no ss1 ic1 t1 s4_1) (kit_no ss2 ic2 t2 s4_2) (kit_no ss3 ic3 t3 s4_3) kit_self (kit_no ss5 ic5 t5 s4_5) (kit_no ss6 ic6 t6 s4_6) (kit_no ss7 ic7 t7 s4_7)
  have kit5 : ∀ j, PySem.W.kitOne K (.ref C5) (.ref (c j)) = some (decide (j = (5 : Fin 8))) := all8 (kit_no ss0 ic0 t0 s5_0) (kit_no ss1 ic1 t1 s5_1) (kit_no ss2 ic2 t2 s5_2) (kit_no ss3 ic3 t3 s5_3) (kit_no ss4 ic4 t4 s5_4) kit_self (kit_no ss6 ic6 t6 s5_6) (kit_no ss7 ic7 t7 s5_7)
  have kit6 : ∀ j, PySem.W.kitOne K (.ref C6) (.ref (c j)) = some (decide (j = (6 : Fin 8))) := all8 (kit_no ss0 ic0 t0 s6_0) (kit_no ss1 ic1 t1 s6_1) (kit_no ss2 ic2 t2 s6_2) (kit_no ss3 ic3 t3 s6_3) (kit_no ss4 ic4 t4 s6_4) (kit_no ss5 ic5 t5 s6_5) kit_self (kit_no ss7 ic7 t7 s6_7)
  have kit7 : ∀ j, PySem.W.kitOne K (.ref C7) (.ref (c j)) = some (decide (j = (7 : Fin 8))) := all8 (kit_no ss0 ic0 t0 s7_0) (kit_no ss1 ic1 t1 s7_1) (kit_no ss2 ic2 t2 s7_2) (kit_no ss3 ic3 t3 s7_3) (kit_no ss4 ic4 t4 s7_4) (kit_no ss5 ic5 t5 s7_5) (kit_no ss6 ic6 t6 s7_6) kit_self
  have g0 : GlD K mg "InvalidWays" (.own C0) := (gl_mk X G a0 ⟨.ref C0, rfl, fun _ => .own C0⟩)
  have g1 : GlD K mg "InvalidTable" (.own C1) := (gl_mk X G a1 ⟨.ref C1, rfl, fun _ => .own C1⟩)
  have g2 : GlD K mg "InvalidTest" (.own C2) := (gl_mk X G a2 ⟨.ref C2, rfl, fun _ => .own C2⟩)
  have g3 : GlD K mg "InvalidStep" (.own C3) := (gl_mk X G a3 ⟨.ref C3, rfl, fun _ => .own C3⟩)
  have g4 : GlD K mg "InvalidQuestion" (.own C4) := (gl_mk X G a4 ⟨.ref C4, rfl, fun _ => .own C4⟩)
  have g5 : GlD K mg "InvalidText" (.own C5) := (gl_mk X G a5 ⟨.ref C5, rfl, fun _ => .own C5⟩)
  have g6 : GlD K mg "InvalidCommand" (.own C6) := (gl_mk X G a6 ⟨.ref C6, rfl, fun _ => .own C6⟩)
  have g7 : GlD K mg "Mismatch" (.own C7) := (gl_mk X G a7 ⟨.ref C7, rfl, fun _ => .own C7⟩)
  have q8 : C8 K mg c := ⟨all8 kit0 kit1 kit2 kit3 kit4 kit5 kit6 kit7, all8 x0 x1 x2 x3 x4 x5 x6 x7, g0, g1, g2, g3, g4, g5, g6, g7⟩
  have h_cls : Pm l.prog w K mg base "_law_classes" 1 (sClasses c) := pm_classes e_law_classes q8 b_isinstance
  have q : L1 K mg c CR CS CN CP := ⟨q8, pe_g E0 (PySem.W.mg_of X G a0), pe_g E1 (PySem.W.mg_of X G a1), pe_g E2 (PySem.W.mg_of X G a2), pe_g E3 (PySem.W.mg_of X G a3), pe_g E5 (PySem.W.mg_of X G a5), pe_g ER (PySem.W.mg_of X G aR), pe_g ES (PySem.W.mg_of X G aS), pe_g EN (PySem.W.mg_of X G aN), pe_0 e6 kp6 be6 t6 (PySem.W.mg_of X G a6), pe_0 e7 kp7 be7 t7 (PySem.W.mg_of X G a7), (gl_mk X G aR ⟨.ref CR, rfl, fun _ => .own CR⟩), (gl_mk X G aS ⟨.ref CS, rfl, fun _ => .own CS⟩), (gl_mk X G aP ⟨.ref CP, rfl, fun _ => .own CP⟩), all8 f0 f1 f2 f3 f4 f5 f6 f7, fR, fS, fN, xR, xS, xN, n0, n1, n2, n3, n4a, n4w, n5, nR, nS, nN, all8 (kit_yes icP tP p0) (kit_yes icP tP p1) (kit_yes icP tP p2) (kit_yes icP tP p3) (kit_yes icP tP p4) (kit_yes icP tP p5) (kit_yes icP tP p6) (kit_yes icP tP p7), all8 (kit_ty (by decide) v0) (kit_ty (by decide) v1) (kit_ty (by decide) v2) (kit_ty (by decide) v3) (kit_ty (by decide) v4) (kit_ty (by decide) v5) (kit_ty (by decide) v6) (kit_ty (by decide) v7), all8 (kit_ty (by decide) i0) (kit_ty (by decide) i1) (kit_ty (by decide) i2) (kit_ty (by decide) i3) (kit_ty (by decide) i4) (kit_ty (by decide) i5) (kit_ty (by decide) i6) (kit_ty (by decide) i7), all8 (kit_ty (by decide) k0) (kit_ty (by decide) k1) (kit_ty (by decide) k2) (kit_ty (by decide) k3) (kit_ty (by decide) k4) (kit_ty (by decide) k5) (kit_ty (by decide) k6) (kit_ty (by decide) k7), kit_ty (by decide) iR, kit_ty (by decide) iS, kit_ty (by decide) kN, kit_ty (by decide) vR, kit_ty (by decide) vS, kit_ty (by decide) vN, kit_no ssS icS tS sRS, kit_no ssR icR tR sSR⟩
  have h_q : Pe2 l.prog w K mg base "InvalidQuestion" (c 4) "at" "word" 1 := pe2_of (ps := p_InvalidQuestion___init__) o4 dE4 (PySem.W.mg_of X G a4) (fun _ _ F => iq_init F o4 n4a n4w) fun _ _ _ _ _ _ us hl => match us, hl with | [_, _, _], _ => rfl
  exact pm_law h_take h_box h_thing h_cls q h_q b_range b_max b_min b_len b_isinstance b_enumerate b_ValueError b_IndexError b_KeyError
end
end Lw
open PySem PySem.W
open PyProof.Rows
set_option maxRecDepth 99000 in
set_option maxHeartbeats 0 in
theorem PySem.Challenge.cw_sentparts_k01_errors_holds : PySem.Challenge.rw_sentparts_k01_errors.Holds := by
  w_on; o_law
  k_head
  (case hw => w_witness2)
  k_fill
  refine DL.walkG (l := PySem.Challenge.rw_sentparts_k01_errors) (n := 63) (j := 7) (x := "_law_script") rfl (by decide) rfl ⟨rfl, by decide, by decide⟩ (fun w h Y => PySem.W.kIn_of Y) ?F
  case F =>
    intro w mg fa h KX G hmg
    refine' Lw.all1 KX G hmg ?d_law_take ?d_law_box ?d_law_thing ?d_law_classes ?d_law ?z_range ?z_tuple ?z_max ?z_min ?z_len ?z_int ?z_abs ?z_isinstance ?z_enumerate ?z_ValueError ?z_IndexError ?z_KeyError ?aP ?icP ?tP ?a0 ?a1 ?a2 ?a3 ?a4 ?a5 ?a6 ?a7 ?aR ?aS ?aN ?E0 ?f0 ?x0 ?ic0 ?t0 ?ss0 ?p0 ?v0 ?i0 ?k0 ?E1 ?f1 ?x1 ?ic1 ?t1 ?ss1 ?p1 ?v1 ?i1 ?k1 ?E2 ?f2 ?x2 ?ic2 ?t2 ?ss2 ?p2 ?v2 ?i2 ?k2 ?E3 ?f3 ?x3 ?ic3 ?t3 ?ss3 ?p3 ?v3 ?i3 ?k3 ?f4 ?x4 ?ic4 ?t4 ?ss4 ?p4 ?v4 ?i4 ?k4 ?E5 ?f5 ?x5 ?ic5 ?t5 ?ss5 ?p5 ?v5 ?i5 ?k5 ?f6 ?x6 ?ic6 ?t6 ?ss6 ?p6 ?v6 ?i6 ?k6 ?f7 ?x7 ?ic7 ?t7 ?ss7 ?p7 ?v7 ?i7 ?k7 ?ER ?fR ?xR ?icR ?tR ?ssR ?vR ?iR ?ES ?fS ?xS ?icS ?tS ?ssS ?vS ?iS ?EN ?fN ?xN ?icN ?tN ?ssN ?vN ?kN ?o4 ?dE4 ?e6 ?kp6 ?be6 ?e7 ?kp7 ?be7 ?n0 ?n1 ?n2 ?n3 ?n4a ?n4w ?n5 ?nR ?nS ?nN ?s0_1 ?s0_2 ?s0_3 ?s0_4 ?s0_5 ?s0_6 ?s0_7 ?s1_0 ?s1_2 ?s1_3 ?s1_4 ?s1_5 ?s1_6 ?s1_7 ?s2_0 ?s2_1 ?s2_3 ?s2_4 ?s2_5 ?s2_6 ?s2_7 ?s3_0 ?s3_1 ?s3_2 ?s3_4 ?s3_5 ?s3_6 ?s3_7 ?s4_0 ?s4_1 ?s4_2 ?s4_3 ?s4_5 ?s4_6 ?s4_7 ?s5_0 ?s5_1 ?s5_2 ?s5_3 ?s5_4 ?s5_6 ?s5_7 ?s6_0 ?s6_1 ?s6_2 ?s6_3 ?s6_4 ?s6_5 ?s6_7 ?s7_0 ?s7_1 ?s7_2 ?s7_3 ?s7_4 ?s7_5 ?s7_6 ?sRS ?sSR
    (case d_law_take => refine' DL.Dn.mk ?a_1 ?l_1 ?c_1 ?k_1; (case a_1 => k_is); (case l_1 => k_is); (case c_1 => k_is); (case k_1 => k_is))
    (case d_law_box => refine' DL.Dn.mk ?a_2 ?l_2 ?c_2 ?k_2; (case a_2 => k_is); (case l_2 => k_is); (case c_2 => k_is); (case k_2 => k_is))
    (case d_law_thing => refine' DL.Dn.mk ?a_3 ?l_3 ?c_3 ?k_3; (case a_3 => k_is); (case l_3 => k_is); (case c_3 => k_is); (case k_3 => k_is))
    (case d_law_classes => refine' DL.Dn.mk ?a_4 ?l_4 ?c_4 ?k_4; (case a_4 => k_is); (case l_4 => k_is); (case c_4 => k_is); (case k_4 => k_is))
    (case d_law => refine' DL.Dn.mk ?a_5 ?l_5 ?c_5 ?k_5; (case a_5 => k_is); (case l_5 => k_is); (case c_5 => k_is); (case k_5 => k_is))
    (case z_range => k_is)
    (case z_tuple => k_is)
    (case z_max => k_is)
    (case z_min => k_is)
    (case z_len => k_is)
    (case z_int => k_is)
    (case z_abs => k_is)
    (case z_isinstance => k_is)
    (case z_enumerate => k_is)
    (case z_ValueError => k_is)
    (case z_IndexError => k_is)
    (case z_KeyError => k_is)
    (case aP => k_is)
    (case icP => k_is)
    (case tP => k_is)
    (case a0 => k_is)
    (case a1 => k_is)
    (case a2 => k_is)
    (case a3 => k_is)
    (case a4 => k_is)
    (case a5 => k_is)
    (case a6 => k_is)
    (case a7 => k_is)
    (case aR => k_is)
    (case aS => k_is)
    (case aN => k_is)
    (case E0 => exact ⟨⟨_, _, _, _, _, _, _, _, _, _, _, _, _, _, _, _, (by k_is), .inr ⟨_, _, _, PySem.F.excBase_ValueError, fun Y => by first | rfl | exact PySem.HandSPX.refsVE_contains Y _ (by first | rfl | decide +kernel)⟩⟩, ⟨_, _, PySem.F.store_ValueError, by first | kx_is | k_is | rfl | kernel_rfl⟩, (by k_is), (by k_is), (by k_is), (by k_is), (by k_is), ⟨_, (by k_is), (by k_is), _, _, _, _, _, _, _, _, _, (by k_is), (by k_is)⟩, Lw.ini_InvalidWays⟩)
    (case f0 => exact ⟨(by k_is), (by k_is), (by k_is), (by k_is)⟩)
    (case x0 => exact ⟨(by k_is), (by k_is), (by k_is), (by k_is), (by k_is), (by k_is), (by k_is), (by k_is)⟩)
    (case ic0 => k_is)
    (case t0 => k_is)
    (case ss0 => k_is)
    (case p0 => k_is)
    (case v0 => k_is)
    (case i0 => k_is)
    (case k0 => k_is)
    (case E1 => exact ⟨⟨_, _, _, _, _, _, _, _, _, _, _, _, _, _, _, _, (by k_is), .inr ⟨_, _, _, PySem.F.excBase_ValueError, fun Y => by first | rfl | exact PySem.HandSPX.refsVE_contains Y _ (by first | rfl | decide +kernel)⟩⟩, ⟨_, _, PySem.F.store_ValueError, by first | kx_is | k_is | rfl | kernel_rfl⟩, (by k_is), (by k_is), (by k_is), (by k_is), (by k_is), ⟨_, (by k_is), (by k_is), _, _, _, _, _, _, _, _, _, (by k_is), (by k_is)⟩, Lw.ini_InvalidTable⟩)
    (case f1 => exact ⟨(by k_is), (by k_is), (by k_is), (by k_is)⟩)
    (case x1 => exact ⟨(by k_is), (by k_is), (by k_is), (by k_is), (by k_is), (by k_is), (by k_is), (by k_is)⟩)
    (case ic1 => k_is)
    (case t1 => k_is)
    (case ss1 => k_is)
    (case p1 => k_is)
    (case v1 => k_is)
    (case i1 => k_is)
    (case k1 => k_is)
    (case E2 => exact ⟨⟨_, _, _, _, _, _, _, _, _, _, _, _, _, _, _, _, (by k_is), .inr ⟨_, _, _, PySem.F.excBase_ValueError, fun Y => by first | rfl | exact PySem.HandSPX.refsVE_contains Y _ (by first | rfl | decide +kernel)⟩⟩, ⟨_, _, PySem.F.store_ValueError, by first | kx_is | k_is | rfl | kernel_rfl⟩, (by k_is), (by k_is), (by k_is), (by k_is), (by k_is), ⟨_, (by k_is), (by k_is), _, _, _, _, _, _, _, _, _, (by k_is), (by k_is)⟩, Lw.ini_InvalidTest⟩)
    (case f2 => exact ⟨(by k_is), (by k_is), (by k_is), (by k_is)⟩)
    (case x2 => exact ⟨(by k_is), (by k_is), (by k_is), (by k_is), (by k_is), (by k_is), (by k_is), (by k_is)⟩)
    (case ic2 => k_is)
    (case t2 => k_is)
    (case ss2 => k_is)
    (case p2 => k_is)
    (case v2 => k_is)
    (case i2 => k_is)
    (case k2 => k_is)
    (case E3 => exact ⟨⟨_, _, _, _, _, _, _, _, _, _, _, _, _, _, _, _, (by k_is), .inr ⟨_, _, _, PySem.F.excBase_ValueError, fun Y => by first | rfl | exact PySem.HandSPX.refsVE_contains Y _ (by first | rfl | decide +kernel)⟩⟩, ⟨_, _, PySem.F.store_ValueError, by first | kx_is | k_is | rfl | kernel_rfl⟩, (by k_is), (by k_is), (by k_is), (by k_is), (by k_is), ⟨_, (by k_is), (by k_is), _, _, _, _, _, _, _, _, _, (by k_is), (by k_is)⟩, Lw.ini_InvalidStep⟩)
    (case f3 => exact ⟨(by k_is), (by k_is), (by k_is), (by k_is)⟩)
    (case x3 => exact ⟨(by k_is), (by k_is), (by k_is), (by k_is), (by k_is), (by k_is), (by k_is), (by k_is)⟩)
    (case ic3 => k_is)
    (case t3 => k_is)
    (case ss3 => k_is)
    (case p3 => k_is)
    (case v3 => k_is)
    (case i3 => k_is)
    (case k3 => k_is)
    (case f4 => exact ⟨(by k_is), (by k_is), (by k_is), (by k_is)⟩)
    (case x4 => exact ⟨(by k_is), (by k_is), (by k_is), (by k_is), (by k_is), (by k_is), (by k_is), (by k_is)⟩)
    (case ic4 => k_is)
    (case t4 => k_is)
    (case ss4 => k_is)
    (case p4 => k_is)
    (case v4 => k_is)
    (case i4 => k_is)
    (case k4 => k_is)
    (case E5 => exact ⟨⟨_, _, _, _, _, _, _, _, _, _, _, _, _, _, _, _, (by k_is), .inr ⟨_, _, _, PySem.F.excBase_ValueError, fun Y => by first | rfl | exact PySem.HandSPX.refsVE_contains Y _ (by first | rfl | decide +kernel)⟩⟩, ⟨_, _, PySem.F.store_ValueError, by first | kx_is | k_is | rfl | kernel_rfl⟩, (by k_is), (by k_is), (by k_is), (by k_is), (by k_is), ⟨_, (by k_is), (by k_is), _, _, _, _, _, _, _, _, _, (by k_is), (by k_is)⟩, Lw.ini_InvalidText⟩)
    (case f5 => exact ⟨(by k_is), (by k_is), (by k_is), (by k_is)⟩)
    (case x5 => exact ⟨(by k_is), (by k_is), (by k_is), (by k_is), (by k_is), (by k_is), (by k_is), (by k_is)⟩)
    (case ic5 => k_is)
    (case t5 => k_is)
    (case ss5 => k_is)
    (case p5 => k_is)
    (case v5 => k_is)
    (case i5 => k_is)
    (case k5 => k_is)
    (case f6 => exact ⟨(by k_is), (by k_is), (by k_is), (by k_is)⟩)
    (case x6 => exact ⟨(by k_is), (by k_is), (by k_is), (by k_is), (by k_is), (by k_is), (by k_is), (by k_is)⟩)
    (case ic6 => k_is)
    (case t6 => k_is)
    (case ss6 => k_is)
    (case p6 => k_is)
    (case v6 => k_is)
    (case i6 => k_is)
    (case k6 => k_is)
    (case f7 => exact ⟨(by k_is), (by k_is), (by k_is), (by k_is)⟩)
    (case x7 => exact ⟨(by k_is), (by k_is), (by k_is), (by k_is), (by k_is), (by k_is), (by k_is), (by k_is)⟩)
    (case ic7 => k_is)
    (case t7 => k_is)
    (case ss7 => k_is)
    (case p7 => k_is)
    (case v7 => k_is)
    (case i7 => k_is)
    (case k7 => k_is)
    (case ER => exact ⟨⟨_, _, _, _, _, _, _, _, _, _, _, _, _, _, _, _, (by k_is), .inr ⟨_, _, _, PySem.F.excBase_IndexError, fun _ => rfl⟩⟩, ⟨_, _, PySem.F.store_IndexError, by first | kx_is | k_is | rfl | kernel_rfl⟩, (by k_is), (by k_is), (by k_is), (by k_is), (by k_is), ⟨_, (by k_is), (by k_is), _, _, _, _, _, _, _, _, _, (by k_is), (by k_is)⟩, Lw.ini_NoRow⟩)
    (case fR => exact ⟨(by k_is), (by k_is), (by k_is), (by k_is)⟩)
    (case xR => exact ⟨(by k_is), (by k_is), (by k_is), (by k_is), (by k_is), (by k_is), (by k_is), (by k_is)⟩)
    (case icR => k_is)
    (case tR => k_is)
    (case ssR => k_is)
    (case vR => k_is)
    (case iR => k_is)
    (case ES => exact ⟨⟨_, _, _, _, _, _, _, _, _, _, _, _, _, _, _, _, (by k_is), .inr ⟨_, _, _, PySem.F.excBase_IndexError, fun _ => rfl⟩⟩, ⟨_, _, PySem.F.store_IndexError, by first | kx_is | k_is | rfl | kernel_rfl⟩, (by k_is), (by k_is), (by k_is), (by k_is), (by k_is), ⟨_, (by k_is), (by k_is), _, _, _, _, _, _, _, _, _, (by k_is), (by k_is)⟩, Lw.ini_NoStep⟩)
    (case fS => exact ⟨(by k_is), (by k_is), (by k_is), (by k_is)⟩)
    (case xS => exact ⟨(by k_is), (by k_is), (by k_is), (by k_is), (by k_is), (by k_is), (by k_is), (by k_is)⟩)
    (case icS => k_is)
    (case tS => k_is)
    (case ssS => k_is)
    (case vS => k_is)
    (case iS => k_is)
    (case EN => exact ⟨⟨_, _, _, _, _, _, _, _, _, _, _, _, _, _, _, _, (by k_is), .inl ⟨rfl, rfl, rfl, rfl⟩⟩, ⟨_, _, DL.store_KeyError, by first | kx_is | k_is | rfl | kernel_rfl⟩, (by k_is), (by k_is), (by k_is), (by k_is), (by k_is), ⟨_, (by k_is), (by k_is), _, _, _, _, _, _, _, _, _, (by k_is), (by k_is)⟩, Lw.ini_NoColumn⟩)
    (case fN => exact ⟨(by k_is), (by k_is), (by k_is), (by k_is)⟩)
    (case xN => exact ⟨(by k_is), (by k_is), (by k_is), (by k_is), (by k_is), (by k_is), (by k_is), (by k_is)⟩)
    (case icN => k_is)
    (case tN => k_is)
    (case ssN => k_is)
    (case vN => k_is)
    (case kN => k_is)
    (case o4 => exact ⟨⟨_, _, _, _, _, _, _, _, _, _, _, _, _, _, _, (by k_is), (by first | rfl | decide +kernel)⟩, (by k_is), (by k_is), (by k_is), (by k_is)⟩)
    (case dE4 => refine' Lw.DnE.mk ?a_134 ?t_134 ?l_134 ?c_134 ?k_134; (case a_134 => k_is); (case t_134 => k_is); (case l_134 => k_is); (case c_134 => k_is); (case k_134 => k_is))
    (case e6 => exact ⟨[.type "ValueError", .type "Exception", .type "BaseException", .type "object"], "ValueError", "ValueError.__new__", _, PySem.F.excBase_ValueError, by k_exc⟩)
    (case kp6 => k_is)
    (case be6 => k_is)
    (case e7 => exact ⟨[.type "ValueError", .type "Exception", .type "BaseException", .type "object"], "ValueError", "ValueError.__new__", _, PySem.F.excBase_ValueError, by k_exc⟩)
    (case kp7 => k_is)
    (case be7 => k_is)
    (case n0 => k_is)
    (case n1 => k_is)
    (case n2 => k_is)
    (case n3 => k_is)
    (case n4a => k_is)
    (case n4w => k_is)
    (case n5 => k_is)
    (case nR => k_is)
    (case nS => k_is)
    (case nN => k_is)
    (case s0_1 => k_is)
    (case s0_2 => k_is)
    (case s0_3 => k_is)
    (case s0_4 => k_is)
    (case s0_5 => k_is)
    (case s0_6 => k_is)
    (case s0_7 => k_is)
    (case s1_0 => k_is)
    (case s1_2 => k_is)
    (case s1_3 => k_is)
    (case s1_4 => k_is)
    (case s1_5 => k_is)
    (case s1_6 => k_is)
    (case s1_7 => k_is)
    (case s2_0 => k_is)
    (case s2_1 => k_is)
    (case s2_3 => k_is)
    (case s2_4 => k_is)
    (case s2_5 => k_is)
    (case s2_6 => k_is)
    (case s2_7 => k_is)
    (case s3_0 => k_is)
    (case s3_1 => k_is)
    (case s3_2 => k_is)
    (case s3_4 => k_is)
    (case s3_5 => k_is)
    (case s3_6 => k_is)
    (case s3_7 => k_is)
    (case s4_0 => k_is)
    (case s4_1 => k_is)
    (case s4_2 => k_is)
    (case s4_3 => k_is)
    (case s4_5 => k_is)
    (case s4_6 => k_is)
    (case s4_7 => k_is)
    (case s5_0 => k_is)
    (case s5_1 => k_is)
    (case s5_2 => k_is)
    (case s5_3 => k_is)
    (case s5_4 => k_is)
    (case s5_6 => k_is)
    (case s5_7 => k_is)
    (case s6_0 => k_is)
    (case s6_1 => k_is)
    (case s6_2 => k_is)
    (case s6_3 => k_is)
    (case s6_4 => k_is)
    (case s6_5 => k_is)
    (case s6_7 => k_is)
    (case s7_0 => k_is)
    (case s7_1 => k_is)
    (case s7_2 => k_is)
    (case s7_3 => k_is)
    (case s7_4 => k_is)
    (case s7_5 => k_is)
    (case s7_6 => k_is)
    (case sRS => k_is)
    (case sSR => k_is)
