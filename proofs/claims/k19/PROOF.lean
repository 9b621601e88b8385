import PyProof.Rows.All
import Wide.All
import OpenK.AllK
import Wide.FinOn
import HandS.ForMost
import HandS.AnyAll
import HandS.IsInst
import HandS.EndTab
import HandS.EndOwn
import HandS.Wide
import HandS.Style
import HandS.SortInts
import HandS.SortKw
import HandS.RevRange
import KE.GoesEnum
import HandS.SetFor
import HandS.TupLe
import HandS.TupAny
import HandS.ExcOwn
import HandS.ExcIs
import HandS.WordsExc
import HandS.ForExc
import HandS.Nested
import HandS.Dict
import PySem.Challenge.RW_spillmirror_k19_no_mirrors
set_option Elab.async false
set_option linter.all false
set_option maxRecDepth 100000
section
set_option maxHeartbeats 4000000
/-! A generator expression over a list, its element a tree that keeps the heap. -/
namespace Sp
open PySem PySem.Spec PyProof.Rows L2
/-- the element of a generator expression: evaluated in the generator's own frame, later than the walked list -/
def EltD (X : Cx) (scp : Scope) (nm : Str) (el : Expr) (Pv : Hp → V → Prop) (G : V → Value → Prop) : Prop :=
  ∀ (ce : Env) (B : Around) (Er : Value → Shared → Prop) (y : V) (v : Value) (pins : List (Addr × Obj)) (σ : L2.St) (H : Hp) (s t : Shared) (m : Str → Option Value),
    ce.scope = scp → ce.globals = mainGlobals → ce.builtins = builtinsNs → B.handled = none → B.depth ≤ X.A.depth + 1 → B.units ≤ X.A.units + 8 → Inv X pins σ H s → Pv H y → RelV y v →
    (∀ b o, (∀ ps, H b ≠ some (.tbl ps)) → s.heap.get? b = some o → t.heap.get? b = some o) → t.heap.Ns ce.locals m → m nm = some v →
    wpAny (model X.prog X.w) B (eval el ce) (fun u t' => G y u ∧ Keeps t t') Er t
section
variable {X : Cx} {pins : List (Addr × Obj)} {σ : L2.St} {H : Hp} {s : Shared}
/-- the generator at g stands ready in z: its answers, one for each of ys, are as G says -/
def ReadyD (X : Cx) (pins : List (Addr × Obj)) (σ : L2.St) (H1 : Hp) (P : Addr) (ys : List V) (G : V → Value → Prop) (g : Addr) (z : Shared) : Prop :=
  ∃ (fp wr : List Addr) (GG : Array GenState → Array GenState → Prop) (F : Nat → Value → Prop) (St : Nat → Shared → Prop),
    WalksS X.prog X.w X.A.in1 g fp wr GG ys.length F St ∧ WalksS X.prog X.w X.A.in1.in1 g fp wr GG ys.length F St ∧ St 0 z ∧ (∀ b ∈ fp, b < z.heap.objs.size) ∧ g ∈ fp ∧ (∀ i z', St i z' → z'.TypeIs (.ref g) "generator") ∧
    (∀ j u, F j u → ∃ y, ys[j]? = some y ∧ G y u) ∧ ∀ z', Moved wr GG z z' → ∃ H2, GxR.Tabbed P H1 H2 ∧ Inv X pins σ H2 z'
theorem gen_list {cd P : Addr} {el it : Expr} {nm : Str} {pn gp : Pos} {scp : Scope} {te : TE} {k : Nat} {Pv : Hp → V → Prop} {G : V → Value → Prop} {Q' : Value → Shared → Prop} {R : Addr → List V → Hp → Prop}
    (room : Room k X.A) (TB : GxR.TabB X.base X.mg cd P) (hcd : X.env.code = .ref cd) (S : GxR.GenS X.env scp nm) (hit : PE X it te) (hel : EltD X scp nm el Pv G)
    (hfold : ∀ v, genFold it X.env v = pure v) (I : Inv X pins σ H s)
    (h : te σ H fun v H1 => ∃ (l : Addr) (ys : List V), v = .ref l ∧ SqL X.K H1 l ys ∧ (∀ y ∈ ys, Pv H1 y) ∧ GxR.TabG H1 P ∧ R l ys H1)
    (hQ : ∀ l ys H1 g z, R l ys H1 → ReadyD X pins σ H1 P ys G g z → Q' (.ref g) z) :
    wpAny (model X.prog X.w) X.A (eval (.GeneratorExp el [⟨.Name nm pn, it, [], 0⟩] scp gp) X.env) Q' X.xe s := by
  refine wpAny_GeneratorExp_walksQD room.hd S.co (closure_ok S.free) S.cell S.dot S.loc S.kind (by have q := room.dp; omega) ?_ hfold
  refine thn (hit.run pins s σ H _ I h) fun xv a ⟨v, H1, J, rv, q⟩ => ?_
  obtain ⟨l, ys, rfl, hl, hP, ⟨ps, hT, tok⟩, hR⟩ := q
  obtain rfl : xv = Value.ref l := rv
  obtain ⟨its, rits, hlist, hzz⟩ := J.list hl
  have isL := hlist.isList
  have hlen : its.length = ys.length := by rw [← rits.length]
  have hat : ∀ (i : Nat) (v : Value), its.toArray[i]? = some v → ∃ y, ys[i]? = some y ∧ RelV y v := fun i v hv => by
    have hv2 : its[i]? = some v := by simpa using hv
    have hi : i < ys.length := by have := (List.getElem?_eq_some_iff.mp hv2).1; omega
    obtain ⟨u, hu, ru⟩ := rits.get (List.getElem?_eq_getElem hi)
    rw [hv2] at hu
    cases hu
    exact ⟨_, List.getElem?_eq_getElem hi, ru⟩
  refine wpAny_pyIter_list isL ?_
  generalize hob : ({ cls := .type "list_iterator", data := .fields #[.ref l, .int 0 0] } : Obj) = ob
  have itr : (a.heap.push ob).IsListIter a.heap.objs.size l 0 := by
    rw [← hob]
    exact ⟨_, Heap.get?_push_size _ rfl, rfl, rfl⟩
  have llt : l < a.heap.objs.size := by
    obtain ⟨_, e, _⟩ := _root_.id isL
    exact Heap.lt_size e
  have tabA : a.heap.get? P = some { cls := .none, data := .fields ps } := J.hok P _ hT
  have Plt : P < a.heap.objs.size := Heap.lt_size tabA
  have tabB : (a.heap.push ob).get? P = some { cls := .none, data := .fields ps } := Heap.get?_push_of_some _ tabA
  have codeHd : PySem.W.CodeHd (a.heap.push ob) cd P := TB.code.keeps fun b u e => Heap.get?_push_of_some _ (J.bk b u e)
  have lim : (a.heap.push ob).NoLimit := J.nolimit.push ob
  have goOn : ∀ (code : Value) (hh : Heap) (tk : Nat) (qs : Array Value), Heap.ExtBut P (a.heap.push ob) hh → (a.heap.push ob).objs.size ≤ hh.objs.size → hh.get? P = some { cls := .none, data := .fields qs } → (∃ more, qs = ps ++ more) → TriplesOk qs.toList →
      wpAny (model X.prog X.w) X.A (builtinsFor X.env.globals X.env.builtins) (fun bi z =>
        ∃ Ia fp wr n₀ Pf St₀ pz F, Value.ref a.heap.objs.size = .ref Ia ∧ (∀ A' : Around, A'.handled = none → Walks X.prog X.w A' Ia fp wr n₀ Pf St₀) ∧ St₀ 0 z.heap ∧ (∀ b ∈ fp, b < z.heap.objs.size) ∧ z.heap.NoLimit ∧ cStatics ∉ wr ∧
          (∀ hr : Heap, (∀ b o, z.heap.get? b = some o → hr.get? b = some o) →
            QuietGenD X.prog X.w (genEnv scp (cloFrom X.env.cells scp.names []) z.heap.objs.size code bi X.env) nm [] el (List.range z.heap.objs.size) wr Pf pz F hr (X.A.depth + 1) (X.A.units + 8)) ∧
          (∀ g h5 tk5 gs, gs.bare = true → z.heap.objs.size < g → h5.objs.size = g + 1 → (∀ b o, z.heap.get? b = some o → h5.get? b = some o) →
            WalksS X.prog X.w X.A.in4 g (g :: z.heap.objs.size :: List.range z.heap.objs.size) (z.heap.objs.size :: wr) (GenOnlyQ z.gens.size) (passing pz n₀ 0).length
              (fun j y => ∃ i, (passing pz n₀ 0)[j]? = some i ∧ F i y) (GenAt X.prog X.w X.A.in4 g z.gens.size z.heap.objs.size (List.range z.heap.objs.size) wr pz n₀ F) →
            GenAt X.prog X.w X.A.in4 g z.gens.size z.heap.objs.size (List.range z.heap.objs.size) wr pz n₀ F 0 { z with gens := z.gens.push gs, toks := tk5, heap := h5 } →
            Q' (.ref g) { z with gens := z.gens.push gs, toks := tk5, heap := h5 })) X.xe { a with heap := hh, toks := tk } := by
    intro code hh tk qs ext big tabC hmore tok2
    obtain ⟨bm, obm, e1, e2, e3, e4, e5, e6, e7, e8⟩ := TB.bm
    have nsP : cStatics ≠ P := fun e => by
      obtain ⟨_, ⟨o', es, ep, ho, hd, _⟩, _⟩ := J.nolimit
      rw [e, tabA] at ho
      cases ho
      cases hd
    have csl : cStatics < a.heap.objs.size := let ⟨_, q, _⟩ := J.nolimit; q.lt
    have szz : (a.heap.push ob).objs.size = a.heap.objs.size + 1 := Heap.size_push ..
    have old : ∀ b u, b ≠ P → a.heap.get? b = some u → hh.get? b = some u := fun b u nb e => ext b u nb (Heap.get?_push_of_some _ e)
    refine wpAny_builtinsFor (m := X.mg) (by rw [J.ok.glob]; exact ((J.mod.glob.keeps J.bk).push ob).extBut ext TB.gP) e1 e2 (old _ _ e4 (J.bk _ _ e5)) e6 e7 e8 ?_
    have lP : l ≠ P := fun e => by
      obtain ⟨_, q, _, _, qd⟩ := _root_.id isL
      rw [e, tabA] at q
      cases q
      cases qd
    have isL2 : hh.IsList l its.toArray := by
      obtain ⟨o, q, r⟩ := _root_.id isL
      exact ⟨o, old _ _ lP q, r⟩
    have itr2 : hh.IsListIter a.heap.objs.size l 0 := itr.at fun u e => ext _ u (Nat.ne_of_gt Plt) e
    refine ⟨a.heap.objs.size, [a.heap.objs.size, l], [a.heap.objs.size], its.toArray.size, (fun i v => its.toArray[i]? = some v), (fun i hp => hp.IsListIter a.heap.objs.size l i ∧ hp.IsList l its.toArray), (fun _ => true),
      (fun i u => ∃ y, ys[i]? = some y ∧ G y u), rfl, (fun A' hA => Walks.list hA _ _ (Nat.ne_of_lt llt) _), ⟨itr2, isL2⟩, ?_, lim.extBut ext nsP, ?_, ?_, ?_⟩
    · intro b hb
      have big2 : a.heap.objs.size < hh.objs.size := by omega
      rcases List.mem_cons.mp hb with e | hb
      · rw [e]; exact big2
      · rcases List.mem_cons.mp hb with e | hb
        · rw [e]; exact Nat.lt_trans llt big2
        · cases hb
    · intro hb
      rcases List.mem_cons.mp hb with e | hb
      · exact Nat.ne_of_lt csl e
      · cases hb
    · intro hr kr
      refine ⟨fun B Er i v t m hB hD hU hv hn hm hk => ?_, fun B Er i v t m hB hD hU hv hp hn hm hk => ?_⟩
      · simp only [List.forIn_nil]
        exact wpAny_pure ⟨rfl, GxR.keeps_refl _⟩
      · obtain ⟨y, hy, ry⟩ := hat i v hv
        refine wpAny_mono (hel _ B Er y v pins σ H1 a t m rfl J.ok.glob rfl hB hD hU J (hP y (List.mem_of_getElem? hy)) ry (fun b o nt e => ?_) hn hm) (fun u t' r => ⟨⟨y, hy, r.1⟩, r.2⟩) fun _ _ e => e
        have bP : b ≠ P := fun q => nt ps (by rw [q]; exact hT)
        have bl := Heap.lt_size e
        have bl2 : b < hh.objs.size := Nat.lt_of_lt_of_le bl (by omega)
        refine hk b (List.mem_range.mpr bl2) (fun q => ?_) o (kr b o (old b o bP e))
        rcases List.mem_cons.mp q with q | q
        · exact Nat.ne_of_lt bl q
        · cases q
    · intro g h5 tk5 gs bare gbig sz5 keep5 W hgen
      simp only [GxR.passing_true, List.length_range] at W
      have n5 : its.toArray.size = ys.length := by rw [List.size_toArray, hlen]
      rw [n5] at W hgen
      refine hQ l ys H1 g _ hR ⟨_, _, _, _, _, W.in4_1, W.in4_2, hgen, ?_, List.mem_cons_self, fun i z' st => ?_, ?_, fun z' mv => ?_⟩
      · intro b hb
        have g1 : hh.objs.size < g := gbig
        have g2 : h5.objs.size = g + 1 := sz5
        show b < h5.objs.size
        rw [g2]
        rcases List.mem_cons.mp hb with e | hb
        · rw [e]; exact Nat.lt_succ_self g
        · rcases List.mem_cons.mp hb with e | hb
          · rw [e]; exact Nat.lt_succ_of_lt g1
          · have q : b < hh.objs.size := List.mem_range.mp hb
            exact Nat.lt_succ_of_lt (Nat.lt_trans q g1)
      · obtain ⟨q, _⟩ := st
        exact q.typeIs
      · intro j u hu
        obtain ⟨i, hij, y, hy, r⟩ := hu
        obtain ⟨hj, ej⟩ := List.getElem?_eq_some_iff.mp hij
        rw [List.getElem_range] at ej
        subst ej
        exact ⟨y, hy, r⟩
      · obtain ⟨more, em⟩ := hmore
        have off : ∀ b u, a.heap.get? b = some u → b ∉ hh.objs.size :: [a.heap.objs.size] := fun b u e hb => by
          have bl := Heap.lt_size e
          rcases List.mem_cons.mp hb with q | q
          · have q2 : hh.objs.size < a.heap.objs.size := by rw [← q]; exact bl
            omega
          · rcases List.mem_cons.mp q with q | q
            · exact Nat.ne_of_lt bl q
            · cases q
        have J2 := GxR.inv_tab (more := more) (h' := z'.heap) (g' := z'.gens) (d' := z'.drawn) (t' := z'.toks) J hT (fun b u nb e => mv.heap b u (off b u e) (keep5 b u (old b u nb e)))
          (by rw [← em]; exact mv.heap P _ (off P _ tabA) (keep5 P _ tabC)) (AllBare.movedS (J.bare.push bare) mv)
        rw [GxR.sh_eta a z' mv.os] at J2
        exact ⟨upd H1 P (.tbl (ps ++ more)), ⟨⟨ps ++ more, upd_same, by rw [← em]; exact tok2⟩, fun b nb => upd_ne nb⟩, J2⟩
  refine ⟨lim, ?_⟩
  cases hf : codeAmong gp ps.toList with
  | none =>
    refine wpAny_genexprCodeX hcd (codeHd.code tabB tok) (codeHd.tab tabB) hf fun c' hh tk hx hge hlt hco' _ htab' _ => ?_
    obtain ⟨_, _, _, _, _, _, _, _, _, _, _, _, _, _, _, _, _, _, _, htr, _⟩ := hco'
    exact goOn _ hh tk _ hx (Nat.le_trans hge (Nat.le_of_lt hlt)) htab'.2 ⟨_, rfl⟩ htr
  | some cv =>
    refine wpAny_genexprCode_hit hcd (codeHd.code tabB tok) hf ?_
    exact goOn cv (a.heap.push ob) a.toks ps (Heap.ExtBut.refl _ _) (Nat.le_refl _) tabB ⟨#[], by simp⟩ tok
end
end Sp
end

section
set_option maxHeartbeats 4000000
namespace Sp
open PySem PySem.Spec PyProof.Rows L2
/-- the kinds of values that a law hands in -/
inductive Plain (H : Hp) : V → Prop where
  | non : Plain H .non
  | bl (b : Bool) : Plain H (.bl b)
  | int (i : Int) : Plain H (.int i)
  | str (z : Str) : Plain H (.str z)
  | lst {a : Addr} {xs : List V} (e : H a = some (.lst xs)) : Plain H (.ref a)
  | frz {a : Addr} {o : Obj} {xs : List V} (e : H a = some (.frz o (.lst xs))) : Plain H (.ref a)
  | tup {a : Addr} {xs : List V} (e : H a = some (.tup xs)) : Plain H (.ref a)
  | dK {a : Addr} {kvs : List (Key × V)} (e : H a = some (.dK kvs)) : Plain H (.ref a)
def isI : V → Bool
  | .int _ => true
  | .bl _ => true
  | _ => false
def isB : V → Bool
  | .bl _ => true
  | _ => false
/-- a whole number -/
def isW : V → Bool
  | .int _ => true
  | _ => false
theorem isW_eq (x : V) : isW x = (isI x && !isB x) := by cases x <;> rfl
theorem kit_plain {X : Cx} {pins : List (Addr × Obj)} {σ : L2.St} {H : Hp} {s : Shared} {x : V} {u : Value} (I : Inv X pins σ H s) (rx : RelV x u) (p : Plain H x) :
    ∃ (T : String) (D : Heap → Prop), PySem.W.KitX X.K u (.type T) D ∧ (∀ h', (∀ b o, (∀ ps, H b ≠ some (.tbl ps)) → s.heap.get? b = some o → h'.get? b = some o) → D h') ∧ u ≠ .builtin "__main__.__loader__#opaque" ∧
      kitB T "int" = some (isI x) ∧ kitB T "bool" = some (isB x) := by
  cases p with
  | non => cases (show u = Value.none from rx); exact ⟨_, _, PySem.W.kitx_none, fun _ _ => trivial, (fun z => nomatch z), by decide +kernel, by decide +kernel⟩
  | bl b => cases (show u = Value.bool b from rx); exact ⟨_, _, PySem.W.kitx_bool, fun _ _ => trivial, (fun z => nomatch z), (by show _ = some true; decide +kernel), (by show _ = some true; decide +kernel)⟩
  | int i => obtain ⟨t, q⟩ := (show ∃ t, u = Value.int i t from rx); cases q; exact ⟨_, _, PySem.W.kitx_int, fun _ _ => trivial, (fun z => nomatch z), (by show _ = some true; decide +kernel), (by show _ = some false; decide +kernel)⟩
  | str z => obtain ⟨t, q⟩ := (show ∃ t, u = Value.str z t from rx); cases q; exact ⟨_, _, PySem.W.kitx_str, fun _ _ => trivial, (fun z => nomatch z), (by show _ = some false; decide +kernel), (by show _ = some false; decide +kernel)⟩
  | @lst a xs e =>
    cases (show u = Value.ref a from rx)
    obtain ⟨_, _, n, _, h1⟩ := (show ObjOk X.prog X.w H s.heap a (.lst xs) from I.hok a _ e)
    exact ⟨_, _, PySem.W.kitx_list, (fun h' k => ⟨_, k a _ (fun ps z => by rw [e] at z; cases z) h1, rfl⟩), (fun z => nomatch z), (by show _ = some false; decide +kernel), (by show _ = some false; decide +kernel)⟩
  | @frz a ob xs e =>
    cases (show u = Value.ref a from rx)
    obtain ⟨_, _, _, n, _, h1⟩ := (show ObjOk X.prog X.w H s.heap a (.frz ob (.lst xs)) from I.hok a _ e)
    exact ⟨_, _, PySem.W.kitx_list, (fun h' k => ⟨_, k a _ (fun ps z => by rw [e] at z; cases z) h1, rfl⟩), (fun z => nomatch z), (by show _ = some false; decide +kernel), (by show _ = some false; decide +kernel)⟩
  | @tup a xs e =>
    cases (show u = Value.ref a from rx)
    obtain ⟨_, _, _, o, h1, h2, _⟩ := (show ObjOk X.prog X.w H s.heap a (.tup xs) from I.hok a _ e)
    exact ⟨_, _, PySem.W.kitx_tuple, (fun h' k => ⟨o, k a _ (fun ps z => by rw [e] at z; cases z) h1, h2⟩), (fun z => nomatch z), (by show _ = some false; decide +kernel), (by show _ = some false; decide +kernel)⟩
  | @dK a kvs e =>
    cases (show u = Value.ref a from rx)
    obtain ⟨_, _, vs, _, o, es, ep, h1, h2, _⟩ := (show ObjOk X.prog X.w H s.heap a (.dK kvs) from I.hok a _ e)
    exact ⟨_, _, PySem.W.kitx_dict, (fun h' k => ⟨o, k a _ (fun ps z => by rw [e] at z; cases z) h1, h2.1⟩), (fun z => nomatch z), (by show _ = some false; decide +kernel), (by show _ = some false; decide +kernel)⟩

/-- the text of is_whole, its places left open -/
def wholeBody (p : Nat → Pos) : List Stmt :=
  [.Return (some (.BoolOp .And [.Call (.Name "isinstance" (p 0)) [.Name "thing" (p 1), .Name "int" (p 2)] [] (p 3),
    .UnaryOp .Not (.Call (.Name "isinstance" (p 4)) [.Name "thing" (p 5), .Name "bool" (p 6)] [] (p 7)) (p 8)] (p 9))) (p 10)]
def wholeScope : Scope := { kind := .function, names := [(Str.ofString "thing", .local), (Str.ofString "isinstance", .globalImplicit), (Str.ofString "int", .globalImplicit), (Str.ofString "bool", .globalImplicit)], isGenerator := false, isCoroutine := false, more := [] }
section
variable {P : Program} {w : World} {K : PySem.W.Frag} {mg mb : Str → Option Value} {A : Around}
theorem ld_b {E : Value → Shared → Prop} {env : Env} {s : Shared} {x : Str} {u : Value} {pos : Pos} {Q : Value → Shared → Prop} (hk : env.scope.kind = .function) (hg : env.kindOf x = some .globalImplicit) (g1 : env.globals = mainGlobals) (b1 : env.builtins = builtinsNs)
    (hns : s.heap.Ns mainGlobals mg) (hm : mg x = none) (hb : s.heap.Ns builtinsNs mb) (hbb : mb x = some u) (h : Q u s) (hd : (x == ("__debug__" : Str)) = false := by decide) :
    wpAny (model P w) A (eval (.Name x pos) env) Q E s :=
  Calls.Name_function_global hk hg (Calls.loadGlobal_builtin (by rw [g1]; exact hns) hm (by rw [b1]; exact hb) hbb h) hd
/-- is_whole, called anywhere, hands back whether it is a whole number, and the heap is kept -/
theorem quiet_whole {X : Cx} {f : Addr} {kV doc pm cdv ct oc : Value} {an od : Option Addr} {osl : Array (Option Value)} {pa : Arguments} {p : Nat → Pos}
    (lk : X.K.lookup f = some ⟨oc, od, .func (PySem.W.fnOf "is_whole" "is_whole" pa (wholeBody p) wholeScope .none kV doc pm an cdv ct), osl⟩) (hcd : PySem.W.codeIn X.K cdv "is_whole" = true)
    (hbind : ∀ u : Value, bindArgs (PySem.W.fnOf "is_whole" "is_whole" pa (wholeBody p) wholeScope .none kV doc pm an cdv ct) ⟨[u], []⟩ = pure [(Str.ofString "thing", u)])
    (m1 : X.mg "isinstance" = none) (m2 : X.mg "int" = none) (m3 : X.mg "bool" = none)
    {B : Around} {y : V} {v : Value} {pins : List (Addr × Obj)} {σ : L2.St} {H : Hp} {s t : Shared} (hh : B.handled = none) (hdp : B.depth < recursionLimit) (I : Inv X pins σ H s) (pl : Plain H y) (ry : RelV y v)
    (hk : ∀ b o, (∀ ps, H b ≠ some (.tbl ps)) → s.heap.get? b = some o → t.heap.get? b = some o) (E : Value → Shared → Prop) :
    wpAny (model X.prog X.w) B (call (.ref f) [v]) (fun u t' => u = .bool (isW y) ∧ Keeps t t') E t := by
  obtain ⟨T, D, Z, hD, hx, ki, kb⟩ := kit_plain I ry pl
  have hbase : ∀ b o, X.base.get? b = some o → t.heap.get? b = some o := fun b o e => hk b o (fun ps z => by rw [(I.bs b o e).2] at z; cases z) (I.bs b o e).1
  have KX : X.K.In t.heap := I.mod.kin.keeps hbase
  have lim : t.heap.NoLimit := I.mod.nolimit.keeps hbase
  obtain ⟨mb, hb1, hb2⟩ := I.mod.blt
  refine wpAny_call ?_
  refine codeAny_call_function hdp (KX _ _ lk) rfl rfl rfl rfl (PySem.W.codeRec_of KX hcd) ?_
  rw [hbind v]
  refine wpAny_pure ?_
  refine wpAny_newFunctionEnv_cells rfl (fun z hz => .inl (by rw [List.mem_singleton.mp hz]; rfl)) fun env he s1 x => ?_
  subst he
  refine ⟨lim.keeps x.toInCall.keep, codeAny_func ?_⟩
  obtain ⟨h1, tk, rfl, k1⟩ := x.done
  have ns := x.toInCall.ns
  have g1 : h1.Ns mainGlobals X.mg := (I.mod.glob.keeps hbase).keeps k1
  have b1 : h1.Ns builtinsNs mb := (hb1.keeps hbase).keeps k1
  have KX1 : X.K.In h1 := KX.keeps k1
  have hD1 : D h1 := hD h1 fun b o nt e => k1 b o (hk b o nt e)
  refine wpAny_execs_cons (thn (wpAny_Return_some (Q := fun f t' => f = .ret (.bool (isW y)) ∧ Keeps t t') ?_) fun f s2 q => ?_)
  · refine BoolOp_and ?_
    -- isinstance(thing, int)
    refine wpAny_Call_Name_kw (ld_b rfl rfl rfl rfl g1 m1 b1 (hb2 _ (by decide)) ?_)
    refine PyProof.Rows.callWith_builtin1 ?_ rfl rfl
    refine Calls.spliced_cons (wpAny_Name (wpAny_loadName_local rfl rfl ns rfl ?_) (by decide))
    refine Calls.spliced_cons (ld_b rfl rfl rfl rfl g1 m2 b1 (hb2 _ (by decide)) ?_)
    refine Calls.spliced_nil ?_
    refine PySem.W.kia_one Z KX1 hD1 (kit_ty ki) hx fun tk2 => ?_
    refine wpAny_truthy_bool ?_
    cases hi : isI y with
    | false =>
      rw [if_neg (by decide)]
      refine ⟨?_, h1, _, rfl, k1⟩
      rw [isW_eq, hi]
      rfl
    | true =>
      rw [if_pos rfl]
      refine BoolOp_one (UnaryOp_ ?_)
      refine wpAny_Call_Name_kw (ld_b rfl rfl rfl rfl g1 m1 b1 (hb2 _ (by decide)) ?_)
      refine PyProof.Rows.callWith_builtin1 ?_ rfl rfl
      refine Calls.spliced_cons (wpAny_Name (wpAny_loadName_local rfl rfl ns rfl ?_) (by decide))
      refine Calls.spliced_cons (ld_b rfl rfl rfl rfl g1 m3 b1 (hb2 _ (by decide)) ?_)
      refine Calls.spliced_nil ?_
      refine PySem.W.kia_one Z KX1 hD1 (kit_ty kb) hx fun tk3 => ?_
      refine not_of (wpAny_truthy_bool ?_)
      refine ⟨?_, h1, _, rfl, k1⟩
      rw [isW_eq, hi]
      rfl
  · obtain ⟨rfl, hkeep⟩ := q
    exact ⟨rfl, hkeep⟩
end
end Sp
end

section
set_option maxHeartbeats 4000000
namespace Sp
open PySem PySem.Spec PyProof.Rows L2
section
variable {X : Cx} {pins : List (Addr × Obj)} {σ : L2.St} {H : Hp} {s : Shared}
theorem elt_whole {f : Addr} {kV doc pm cdv ct oc : Value} {an od : Option Addr} {osl : Array (Option Value)} {pa : Arguments} {p : Nat → Pos} {scp : Scope} {nm : Str} {p1 p2 p3 : Pos}
    (lk : X.K.lookup f = some ⟨oc, od, .func (PySem.W.fnOf "is_whole" "is_whole" pa (wholeBody p) wholeScope .none kV doc pm an cdv ct), osl⟩) (hcd : PySem.W.codeIn X.K cdv "is_whole" = true)
    (hbind : ∀ u : Value, bindArgs (PySem.W.fnOf "is_whole" "is_whole" pa (wholeBody p) wholeScope .none kV doc pm an cdv ct) ⟨[u], []⟩ = pure [(Str.ofString "thing", u)])
    (m1 : X.mg "isinstance" = none) (m2 : X.mg "int" = none) (m3 : X.mg "bool" = none) (mf : X.mg "is_whole" = some (.ref f)) (kp : PySem.W.keepIn X.K (.ref f) = true)
    (hk : scp.kind = .function) (hw : scp.names.lookup ("is_whole" : Str) = some .globalImplicit) (hd : scp.names.lookup nm = some .local) (hnd : (nm == ("__debug__" : Str)) = false) {k : Nat} (hr : Room k X.A) :
    EltD X scp nm (.Call (.Name "is_whole" p1) [.Name nm p2] [] p3) Plain (fun y u => u = .bool (isW y)) := by
  intro ce B Er y v pins σ H s t m e1 e2 e3 hB hD hU I pl ry keep ns hm
  have hbase : ∀ b o, X.base.get? b = some o → t.heap.get? b = some o := fun b o e => keep b o (fun ps z => by rw [(I.bs b o e).2] at z; cases z) (I.bs b o e).1
  have KX : X.K.In t.heap := I.mod.kin.keeps hbase
  refine wpAny_Call_Name_kw (Calls.Name_function_global (by rw [e1]; exact hk) (show ce.scope.names.lookup _ = _ by rw [e1]; exact hw) (Calls.loadGlobal_global (by rw [e2]; exact I.mod.glob.keeps hbase) mf ?_) (by decide))
  refine PySem.W.callWith_K (h₀ := X.base) I.ok.mod.kin kp ?_ rfl rfl
  refine Calls.spliced_cons (wpAny_Name (wpAny_loadName_local (by rw [e1]; exact hk) (show ce.scope.names.lookup _ = _ by rw [e1]; exact hd) ns hm ?_) hnd)
  refine Calls.spliced_nil ⟨KX, ?_⟩
  exact quiet_whole lk hcd hbind m1 m2 m3 hB (by have := hr.dp; omega) I pl ry keep Er
/-- all(..) of a generator expression over a list -/
def tAllG (K : PySem.W.Frag) (P : Addr) (Pv : Hp → V → Prop) (pb : V → Bool) (te : TE) : TE := fun σ H Q => te σ H fun v H1 => ∃ (l : Addr) (ys : List V), v = .ref l ∧ SqL K H1 l ys ∧ (∀ y ∈ ys, Pv H1 y) ∧ GxR.TabG H1 P ∧
  ∀ H2, GxR.Tabbed P H1 H2 → Q (.bl (ys.all pb)) H2
def trD (pb : V → Bool) (ys : List V) (j : Nat) : Bool := ((ys[j]?).map pb).getD true
theorem trD_all (pb : V → Bool) (ys : List V) : (List.range ys.length).all (trD pb ys) = ys.all pb := by
  rw [Bool.eq_iff_iff, List.all_eq_true, List.all_eq_true]
  constructor
  · intro h y hy
    obtain ⟨j, hj, e⟩ := List.getElem_of_mem hy
    have q := h j (List.mem_range.mpr hj)
    unfold trD at q
    rw [List.getElem?_eq_getElem hj, e] at q
    exact q
  · intro h j hj
    have hj' := List.mem_range.mp hj
    unfold trD
    rw [List.getElem?_eq_getElem hj']
    exact h _ (List.getElem_mem hj')
theorem pe_allG {cd P : Addr} {el it : Expr} {nm : Str} {pn p pos gp : Pos} {scp : Scope} {te : TE} {k : Nat} {Pv : Hp → V → Prop} {pb : V → Bool}
    (room : Room k X.A) (hg : Gl X "all") (hm : X.mg "all" = none) (hb : bootBuiltins "all" = some (.builtin "all")) (TB : GxR.TabB X.base X.mg cd P) (hcd : X.env.code = .ref cd) (S : GxR.GenS X.env scp nm) (hit : PE X it te)
    (hel : EltD X scp nm el Pv (fun y u => u = .bool (pb y))) (hfold : ∀ v, genFold it X.env v = pure v)
    (he : starEach [.GeneratorExp el [⟨.Name nm pn, it, [], 0⟩] scp gp] X.env = (false, eval (.GeneratorExp el [⟨.Name nm pn, it, [], 0⟩] scp gp) X.env) :: starEach [] X.env := by rfl) :
    PE X (.Call (.Name "all" p) [.GeneratorExp el [⟨.Name nm pn, it, [], 0⟩] scp gp] [] pos) (tAllG X.K P Pv pb te) := by
  refine ⟨fun pins s σ H Q I h => ?_⟩
  refine wpAny_Call_Name_kw (ld_blt I hg hm hb ?_)
  refine PyProof.Rows.callWith_builtin1 ?_ he (by rfl)
  rw [he]
  show wpAny _ _ (spliced ((false, eval (.GeneratorExp el [⟨.Name nm pn, it, [], 0⟩] scp gp) X.env) :: backTo pos (starEach [] X.env))) _ _ s
  refine Calls.spliced_cons (gen_list (R := fun l ys H1 => ∀ H2, GxR.Tabbed P H1 H2 → Q (.bl (ys.all pb)) H2) room TB hcd S hit hel hfold I h fun l ys H1 g z hR hG => ?_)
  obtain ⟨fp, wr, GG, F, St, W, _, st, _, _, _, hF, hI⟩ := hG
  refine Calls.spliced_nil ?_
  refine call_all_walkS (W.self 0 _ _ _ st ⟨g, fp, wr, GG, _, F, St, trD pb ys, rfl, W, st, ?_, fun z' mv => ?_⟩)
  · intro i u sj Qj Ej hu hQj
    obtain ⟨y, hy, rfl⟩ := hF i u hu
    have q : Qj (trD pb ys i) sj := hQj
    unfold trD at q
    rw [hy] at q
    exact wpAny_truthy_bool q
  · obtain ⟨H2, hT, J⟩ := hI z' mv
    refine ⟨.bl _, H2, J, rfl, ?_⟩
    rw [trD_all]
    exact hR H2 hT
end
/-! ### what stays -/
/-- all that was tracked is as it was, but for what stands at C, and the tables of code, which grow -/
structure Ex (C : List Addr) (H H' : Hp) : Prop where
  keep : ∀ b o, b ∉ C → H b = some o → (∀ ps, o ≠ .tbl ps) → H' b = some o
  tab : ∀ P, GxR.TabG H P → GxR.TabG H' P
  there : ∀ b, H' b = none → H b = none
theorem Ex.refl {C : List Addr} (H : Hp) : Ex C H H := ⟨fun _ _ _ e _ => e, fun _ h => h, fun _ h => h⟩
theorem Ex.trans {C : List Addr} {H H1 H2 : Hp} (a : Ex C H H1) (b : Ex C H1 H2) : Ex C H H2 := ⟨fun c o m e n => b.keep c o m (a.keep c o m e n) n, fun P h => b.tab P (a.tab P h), fun c h => a.there c (b.there c h)⟩
theorem Ex.mono {C D : List Addr} {H H' : Hp} (a : Ex C H H') (h : ∀ x ∈ C, x ∈ D) : Ex D H H' := ⟨fun b o m e n => a.keep b o (fun z => m (h b z)) e n, a.tab, a.there⟩
theorem Ex.up {C : List Addr} {H H' : Hp} (a : Ex [] H H') : Ex C H H' := a.mono fun _ h => nomatch h
theorem Ex.less {C D : List Addr} {H H' : Hp} (a : Ex C H H') (h : ∀ x ∈ C, x ∈ D ∨ H x = none) : Ex D H H' := ⟨fun b o m e n => a.keep b o (fun z => by
  rcases h b z with q | q
  · exact m q
  · rw [q] at e; cases e) e n, a.tab, a.there⟩
/-- what is changed was not there at first -/
theorem Ex.drop {C : List Addr} {H H' : Hp} (a : Ex C H H') (h : ∀ c ∈ C, H c = none) : Ex [] H H' := ⟨fun b o _ e n => a.keep b o (fun z => by rw [h b z] at e; cases e) e n, a.tab, a.there⟩
theorem tabg_ne {H : Hp} {P a : Addr} {o : HO} (t : GxR.TabG H P) (e : H a = some o) (n : ∀ ps, o ≠ .tbl ps) : a ≠ P := fun z => by
  obtain ⟨ps, q, _⟩ := t
  rw [z, q] at e
  exact n ps (Option.some.inj e).symm
theorem tabg_upd {H : Hp} {P a : Addr} {u o : HO} (t : GxR.TabG H P) (e : H a = some u) (n : ∀ ps, u ≠ .tbl ps) : GxR.TabG (upd H a o) P := by
  have q := tabg_ne t e n
  obtain ⟨ps, z, r⟩ := t
  exact ⟨ps, by rw [upd_ne q.symm]; exact z, r⟩
theorem Ex.new {C : List Addr} {H : Hp} {p : Addr} {o : HO} (h : H p = none) : Ex C H (upd H p o) := ⟨fun b u _ e _ => by rw [upd_ne (ne_of_none e h)]; exact e, fun P t => by
  obtain ⟨ps, q, r⟩ := t
  exact ⟨ps, by rw [upd_ne (ne_of_none q h)]; exact q, r⟩, fun b e => by
  by_cases z : b = p
  · rw [z]; exact h
  · rw [upd_ne z] at e; exact e⟩
/-- a change at c -/
theorem Ex.set {C : List Addr} {H : Hp} {c : Addr} {u o : HO} (h : H c = some u) (n : ∀ ps, u ≠ .tbl ps) (m : c ∈ C) : Ex C H (upd H c o) := ⟨fun b v hb e _ => by rw [upd_ne (fun z => hb (by rw [z]; exact m))]; exact e, fun P t => tabg_upd t h n, fun b e => by
  by_cases z : b = c
  · rw [z, upd_same] at e; cases e
  · rw [upd_ne z] at e; exact e⟩
theorem Ex.tabbed {C : List Addr} {H H' : Hp} {P : Addr} (t : GxR.TabG H P) (h : GxR.Tabbed P H H') : Ex C H H' := ⟨fun b o _ e n => by rw [h.2 b (tabg_ne t e n)]; exact e, fun Q tq => by
    by_cases e : Q = P
    · rw [e]; exact h.1
    · obtain ⟨ps, q, r⟩ := tq
      exact ⟨ps, by rw [h.2 Q e]; exact q, r⟩, fun b e => by
    by_cases z : b = P
    · obtain ⟨ps, q, _⟩ := h.1
      rw [z, q] at e
      cases e
    · rw [h.2 b z] at e; exact e⟩
theorem Ex.at {C : List Addr} {H H' : Hp} (x : Ex C H H') {a : Addr} {xs : List V} (e : H a = some (.lst xs)) (m : a ∉ C) : H' a = some (.lst xs) := x.keep a _ m e fun _ z => nomatch z
theorem nm {a : Addr} : a ∉ ([] : List Addr) := fun h => nomatch h
theorem n1 {a c : Addr} (h : a ≠ c) : a ∉ [c] := fun z => h (List.mem_singleton.mp z)
theorem Ex.lst {H H' : Hp} (x : Ex [] H H') {a : Addr} {xs : List V} (e : H a = some (.lst xs)) : H' a = some (.lst xs) := x.keep a _ nm e fun _ z => nomatch z
theorem Ex.tup {H H' : Hp} (x : Ex [] H H') {a : Addr} {xs : List V} (e : H a = some (.tup xs)) : H' a = some (.tup xs) := x.keep a _ nm e fun _ z => nomatch z
theorem Ex.frz {H H' : Hp} (x : Ex [] H H') {a : Addr} {o : Obj} {u : HO} (e : H a = some (.frz o u)) : H' a = some (.frz o u) := x.keep a _ nm e fun _ z => nomatch z
theorem Ex.seq {K : PySem.W.Frag} {H H' : Hp} {C : List Addr} (x : Ex C H H') {a : Addr} {xs : List V} (m : a ∉ C) (h : SqL K H a xs) : SqL K H' a xs := by
  rcases h with (h | ⟨o, h⟩) | h
  · exact .inl (.inl (x.keep a _ m h fun _ z => nomatch z))
  · exact .inl (.inr ⟨o, x.keep a _ m h fun _ z => nomatch z⟩)
  · exact .inr h
theorem Ex.rd {H H' : Hp} {C : List Addr} (x : Ex C H H') {a : Addr} {xs : List V} (m : a ∉ C) (h : Rd H a (.lst xs)) : Rd H' a (.lst xs) := by
  rcases h with h | ⟨o, h⟩
  · exact .inl (x.keep a _ m h fun _ z => nomatch z)
  · exact .inr ⟨o, x.keep a _ m h fun _ z => nomatch z⟩
theorem rd_seq {K : PySem.W.Frag} {H : Hp} {a : Addr} {xs : List V} (h : Rd H a (.lst xs)) : SqL K H a xs := .inl h
theorem sq {K : PySem.W.Frag} {H : Hp} {a : Addr} {xs : List V} (h : H a = some (.lst xs)) : SqL K H a xs := .inl (.inl h)
theorem sqt {K : PySem.W.Frag} {H : Hp} {a : Addr} {xs : List V} (h : H a = some (.tup xs)) : SqT K H a xs := .inl (.inl h)
/-! ### a def of the text, with all that a caller wants of it -/
structure Df (K : PySem.W.Frag) (mg : Str → Option Value) (x : Str) (st : Stmt) (ps : List Str) where
  f : Addr
  fd : FuncData
  F : Fun K x x st f fd
  b : Binds K fd ps []
  m : mg x = some (.ref f)
section
variable {X : Cx} {e : Expr} {es : List Expr} {t : TA} {p pos : Pos} {x : Str} {st : Stmt} {ps : List Str} {k : Nat} {sp : Sp}
theorem pe_d (d : Df X.K X.mg x st ps) (G : FnOk X.prog X.w X.K X.mg X.base CX0 k d.f d.fd ps sp) (hr : Room k X.A) (ha : PA X (e :: es) t) (hg : Gl X x := by rfl)
    (hdb : (x == ("__debug__" : Str)) = false := by decide) (he : starEach (e :: es) X.env = (false, eval e X.env) :: starEach es X.env := by rfl) (hpl : (backTo pos (starEach es X.env)).any (·.1) = false := by rfl) :
    PE X (.Call (.Name x p) (e :: es) [] pos) (tCall sp [] E0 t) := pe_call G hr hg d.m d.F.kp d.b .nil pass0 ha hdb he hpl
end
/-- the built-in names are the built-in ones -/
structure Blt (mg : Str → Option Value) : Prop where
  isinstance : mg "isinstance" = none
  int : mg "int" = none
  bool : mg "bool" = none
  list : mg "list" = none
  all : mg "all" = none
  min : mg "min" = none
  max : mg "max" = none
  sum : mg "sum" = none
  len : mg "len" = none
  abs : mg "abs" = none
  range : mg "range" = none
  sorted : mg "sorted" = none
  enumerate : mg "enumerate" = none
  zip : mg "zip" = none
  tuple : mg "tuple" = none
  str : mg "str" = none
  repr : mg "repr" = none
  reversed : mg "reversed" = none
  dict : mg "dict" = none
  set : mg "set" = none
  any : mg "any" = none
  type : mg "type" = none
section
variable {X : Cx} {e : Expr} {es : List Expr} {t : TA} {p pos : Pos}
/-- a built-in class's name as a value -/
theorem pe_ty {x : Str} (n : String) (hm : X.mg x = none) (hv : bootBuiltins x = some (.type n) := by decide +kernel) (hg : Gl X x := by rfl) (hn : x ≠ "__name__" := by decide) (hd : (x == ("__debug__" : Str)) = false := by decide) : PE X (.Name x pos) (tC (.ty n)) :=
  pe_bltn hg hm hv rfl hn hd
theorem pe_isi {a b : Expr} {ta tb : TE} (B : Blt X.mg) (ha : PE X a ta) (hb : PE X b tb) (hg : Gl X "isinstance" := by rfl) (s1 : starEach [a, b] X.env = (false, eval a X.env) :: starEach [b] X.env := by rfl) (s2 : starEach [b] X.env = (false, eval b X.env) :: starEach [] X.env := by rfl)
    (s3 : (backTo pos (starEach [b] X.env)).any (·.1) = false := by rfl) : PE X (.Call (.Name "isinstance" p) [a, b] [] pos) (tCB (rIsi X.K) (tCons ta (tCons tb tNil))) :=
  pe_callB call_isi hg B.isinstance (by decide +kernel) (pa_cons ha (pa_cons hb pa_nil s2) s1) (by decide) (by decide) s1 s3
end
/-! ### great numbers -/
def CPowW (i j : Int) : Prop := 0 ≤ j ∧ j ≤ 10 ∧ i.natAbs < 2 ^ 100000
theorem bits_of {i : Int} {n : Nat} (h : i.natAbs < 2 ^ n) : Builtin.Int.intBits i ≤ n := by
  unfold Builtin.Int.intBits
  split
  · omega
  · rename_i z
    have z' : i.natAbs ≠ 0 := fun q => z (by rw [Int.natAbs_eq_zero.mp q]; rfl)
    have := (Nat.log2_lt z').mpr h
    omega
theorem CPowW.ok {i j : Int} (h : CPowW i j) : (Builtin.Int.intBits i : Int) * j ≤ 2 ^ 27 := by
  obtain ⟨h1, h2, h3⟩ := h
  have b := bits_of h3
  have b' : (Builtin.Int.intBits i : Int) ≤ 100000 := by omega
  have q : (Builtin.Int.intBits i : Int) * j ≤ 100000 * j := Int.mul_le_mul_of_nonneg_right b' h1
  omega
section
variable {X : Cx}
theorem op_powW : OpR X (binaryOp .Pow) (rI CPowW fun i j => .int (i ^ j.toNat)) := opI fun _ _ _ _ _ _ _ hc q => pow_int hc.1 hc.ok q
/-- a power whose value is written -/
def rPowC : V → V → Hp → VK → Prop := fun x y H Q => ∃ (i j k : Int), x = .int i ∧ y = .int j ∧ (0 ≤ j ∧ j ≤ 1000 ∧ i.natAbs < 2 ^ 64) ∧ i ^ j.toNat = k ∧ Q (.int k) H
theorem op_powC : OpR X (binaryOp .Pow) rPowC := by
  intro pins s σ H x y Q v u I rx ry h
  obtain ⟨i, j, k, rfl, rfl, ⟨h1, h2, h3⟩, rfl, q⟩ := h
  exact op_pow pins s σ H _ _ _ _ _ I rx ry ⟨i, j, rfl, rfl, ⟨h1, by omega, h3⟩, q⟩
end
theorem pow200 {n : Nat} (a : n < 2 ^ 200) : n < 2 ^ 100000 := Nat.lt_of_lt_of_le a (Nat.pow_le_pow_right (by decide) (by decide))
theorem powW {i : Int} (h0 : 0 ≤ i) (h : i < 1000000000000000000000000000000000000000000000000000000000000) : CPowW i 3 := by
  refine ⟨by decide, by decide, ?_⟩
  have a : i.natAbs < 2 ^ 200 := by omega
  exact pow200 a
theorem powW5 {i : Int} (h0 : 0 ≤ i) (h : i < 1000000000000000000000000000000000000000000000000000000000000) : CPowW i 5 := by
  refine ⟨by decide, by decide, ?_⟩
  have a : i.natAbs < 2 ^ 200 := by omega
  exact pow200 a
theorem divW {i j : Int} (h0 : 0 < j) (h : j < 1000000000000000000000000000000000000000000000000000000000000) : CDivW i j := wide_div (b := 200) h0 (by omega) (by decide) (by decide)
/-- what a law draws from: what is left of a great cell, a number to mix, how many were mixed -/
def CaskAt (H : Hp) (c : Addr) (M : Int) : Prop := ∃ a b n : Int, H c = some (.lst [.int a, .int b, .int n]) ∧ 0 ≤ a ∧ 0 ≤ b ∧ b < 1000000000000000000000000000000000000000000 ∧ 0 ≤ n ∧ n ≤ M
theorem CaskAt.ex {C : List Addr} {H H' : Hp} {c : Addr} {M : Int} (x : Ex C H H') (m : c ∉ C) (k : CaskAt H c M) : CaskAt H' c M := by
  obtain ⟨a, b, n, h, r⟩ := k
  exact ⟨a, b, n, x.at h m, r⟩
theorem CaskAt.le {H : Hp} {c : Addr} {M N : Int} (k : CaskAt H c M) (h : M ≤ N) : CaskAt H c N := by
  obtain ⟨a, b, n, e, h1, h2, h3, h4, h5⟩ := k
  exact ⟨a, b, n, e, h1, h2, h3, h4, by omega⟩
theorem CaskAt.some {H : Hp} {c : Addr} {M : Int} (k : CaskAt H c M) : ∃ xs, H c = some (.lst xs) := by
  obtain ⟨a, b, n, e, _⟩ := k
  exact ⟨_, e⟩
theorem CaskAt.ne {H : Hp} {c p : Addr} {M : Int} (k : CaskAt H c M) (h : H p = none) : c ≠ p := by
  obtain ⟨xs, e⟩ := k.some
  exact ne_of_none e h
theorem mod_lt {a b : Int} (h : 0 < b) : 0 ≤ a % b ∧ a % b < b := ⟨Int.emod_nonneg _ (by omega), Int.emod_lt_of_pos _ h⟩
end Sp
end

section
set_option maxHeartbeats 200000
/-! One tank, day by day: the mathematics. -/
namespace Sp
open L2
def stepC (cap c d : Int) : Int := if cap < (if 0 > c + d then 0 else c + d) then cap else (if 0 > c + d then 0 else c + d)
def stepS (cap c d : Int) : Int := if 0 > c + d - cap then 0 else c + d - cap
def stepL (c d : Int) : Int := if 0 > -(c + d) then 0 else -(c + d)
def endC (cap : Int) : Int → List Int → Int
  | c, [] => c
  | c, d :: ds => endC cap (stepC cap c d) ds
def runC (cap : Int) : Int → List Int → List Int
  | _, [] => []
  | c, d :: ds => stepC cap c d :: runC cap (stepC cap c d) ds
def runS (cap : Int) : Int → List Int → List Int
  | _, [] => []
  | c, d :: ds => stepS cap c d :: runS cap (stepC cap c d) ds
def runL (cap : Int) : Int → List Int → List Int
  | _, [] => []
  | c, d :: ds => stepL c d :: runL cap (stepC cap c d) ds
def inC (cap c : Int) (ds : List Int) : List Int := c :: runC cap c ds
section
variable {cap : Int}
theorem endC_app : ∀ (c : Int) (xs ys : List Int), endC cap c (xs ++ ys) = endC cap (endC cap c xs) ys
  | _, [], _ => rfl
  | c, d :: ds, ys => endC_app (stepC cap c d) ds ys
theorem runC_app : ∀ (c : Int) (xs ys : List Int), runC cap c (xs ++ ys) = runC cap c xs ++ runC cap (endC cap c xs) ys
  | _, [], _ => rfl
  | c, d :: ds, ys => congrArg (stepC cap c d :: ·) (runC_app (stepC cap c d) ds ys)
theorem runS_app : ∀ (c : Int) (xs ys : List Int), runS cap c (xs ++ ys) = runS cap c xs ++ runS cap (endC cap c xs) ys
  | _, [], _ => rfl
  | c, d :: ds, ys => congrArg (stepS cap c d :: ·) (runS_app (stepC cap c d) ds ys)
theorem runL_app : ∀ (c : Int) (xs ys : List Int), runL cap c (xs ++ ys) = runL cap c xs ++ runL cap (endC cap c xs) ys
  | _, [], _ => rfl
  | c, d :: ds, ys => congrArg (stepL c d :: ·) (runL_app (stepC cap c d) ds ys)
theorem runC_len : ∀ (c : Int) (ds : List Int), (runC cap c ds).length = ds.length
  | _, [] => rfl
  | c, d :: ds => congrArg (· + 1) (runC_len (stepC cap c d) ds)
theorem runS_len : ∀ (c : Int) (ds : List Int), (runS cap c ds).length = ds.length
  | _, [] => rfl
  | c, d :: ds => congrArg (· + 1) (runS_len (stepC cap c d) ds)
theorem runL_len : ∀ (c : Int) (ds : List Int), (runL cap c ds).length = ds.length
  | _, [] => rfl
  | c, d :: ds => congrArg (· + 1) (runL_len (stepC cap c d) ds)
/-- the last content is the end -/
theorem inC_last : ∀ (c : Int) (ds : List Int), ∃ xs : List Int, inC cap c ds = xs ++ [endC cap c ds] ∧ xs.length = ds.length
  | c, [] => ⟨[], rfl, rfl⟩
  | c, d :: ds => by
    obtain ⟨xs, e, h⟩ := inC_last (stepC cap c d) ds
    exact ⟨c :: xs, congrArg (c :: ·) e, congrArg (· + 1) h⟩
theorem inC_at (c : Int) (ds : List Int) : atI ((inC cap c ds).map V.int) (-1) = some (.int (endC cap c ds)) := by
  obtain ⟨xs, e, _⟩ := inC_last (cap := cap) c ds
  rw [e, List.map_append]
  exact atI_last _ _
theorem step_range {c d : Int} (h0 : 0 ≤ cap) : 0 ≤ stepC cap c d ∧ stepC cap c d ≤ cap := by
  unfold stepC
  split <;> split <;> omega
theorem end_range : ∀ (c : Int) (ds : List Int), 0 ≤ c → c ≤ cap → 0 ≤ endC cap c ds ∧ endC cap c ds ≤ cap
  | c, [], h0, h1 => ⟨h0, h1⟩
  | c, d :: ds, h0, h1 => end_range (stepC cap c d) ds (step_range (by omega)).1 (step_range (by omega)).2
theorem take_succ {α : Type} {xs : List α} {i : Nat} {x : α} (h : xs[i]? = some x) : xs.take (i + 1) = xs.take i ++ [x] := by
  rw [List.take_add_one, h]
  rfl
theorem map_at {xs : List Int} {i : Nat} {y : V} (h : (xs.map V.int)[i]? = some y) : ∃ z : Int, y = .int z ∧ xs[i]? = some z := by
  rw [List.getElem?_map] at h
  cases e : xs[i]? with
  | none => rw [e] at h; cases h
  | some z => rw [e] at h; exact ⟨z, (Option.some.inj h).symm, rfl⟩
end
theorem step_cases {cap c d : Int} (h0 : 0 ≤ cap) : (c + d < 0 ∧ stepC cap c d = 0 ∧ stepS cap c d = 0 ∧ stepL c d = -(c + d)) ∨ (0 ≤ c + d ∧ c + d ≤ cap ∧ stepC cap c d = c + d ∧ stepS cap c d = 0 ∧ stepL c d = 0) ∨
    (cap < c + d ∧ stepC cap c d = cap ∧ stepS cap c d = c + d - cap ∧ stepL c d = 0) := by
  unfold stepC stepS stepL
  by_cases h1 : c + d < 0
  · refine .inl ⟨h1, ?_, ?_, ?_⟩
    · rw [if_pos h1, if_neg (by omega)]
    · rw [if_pos (by omega)]
    · rw [if_neg (by omega)]
  · rw [if_neg (show ¬ 0 > c + d by omega)]
    by_cases h2 : cap < c + d
    · refine .inr (.inr ⟨h2, ?_, ?_, ?_⟩)
      · rw [if_pos h2]
      · rw [if_neg (by omega)]
      · by_cases h3 : 0 > -(c + d)
        · rw [if_pos h3]
        · rw [if_neg h3]; omega
    · refine .inr (.inl ⟨by omega, by omega, ?_, ?_, ?_⟩)
      · rw [if_neg h2]
      · by_cases h3 : 0 > c + d - cap
        · rw [if_pos h3]
        · rw [if_neg h3]; omega
      · by_cases h3 : 0 > -(c + d)
        · rw [if_pos h3]
        · rw [if_neg h3]; omega
/-- with all signs turned -/
theorem step_neg {cap c d : Int} (h0 : 0 ≤ c) (h1 : c ≤ cap) : stepC cap (cap - c) (0 - d) = cap - stepC cap c d ∧ stepS cap (cap - c) (0 - d) = stepL c d ∧ stepL (cap - c) (0 - d) = stepS cap c d := by
  have a := step_cases (cap := cap) (c := c) (d := d) (by omega)
  have b := step_cases (cap := cap) (c := cap - c) (d := 0 - d) (by omega)
  refine ⟨?_, ?_, ?_⟩ <;> omega
theorem run_neg {cap : Int} : ∀ (c : Int) (ds : List Int), 0 ≤ c → c ≤ cap → runC cap (cap - c) (ds.map (0 - ·)) = (runC cap c ds).map (cap - ·) ∧ runS cap (cap - c) (ds.map (0 - ·)) = runL cap c ds ∧ runL cap (cap - c) (ds.map (0 - ·)) = runS cap c ds
  | c, [], _, _ => ⟨rfl, rfl, rfl⟩
  | c, d :: ds, h0, h1 => by
    obtain ⟨e1, e2, e3⟩ := step_neg (d := d) h0 h1
    have r := step_range (cap := cap) (c := c) (d := d) (by omega)
    obtain ⟨i1, i2, i3⟩ := run_neg (stepC cap c d) ds r.1 r.2
    refine ⟨?_, ?_, ?_⟩
    · show stepC cap (cap - c) (0 - d) :: runC cap (stepC cap (cap - c) (0 - d)) (ds.map (0 - ·)) = (cap - stepC cap c d) :: (runC cap (stepC cap c d) ds).map (cap - ·)
      rw [e1, i1]
    · show stepS cap (cap - c) (0 - d) :: runS cap (stepC cap (cap - c) (0 - d)) (ds.map (0 - ·)) = stepL c d :: runL cap (stepC cap c d) ds
      rw [e1, e2, i2]
    · show stepL (cap - c) (0 - d) :: runL cap (stepC cap (cap - c) (0 - d)) (ds.map (0 - ·)) = stepS cap c d :: runS cap (stepC cap c d) ds
      rw [e1, e3, i3]
/-- from another start what is spilled is more by what lies above the end of the days read from the last to the first -/
theorem spill_start {cap : Int} (hc : 0 ≤ cap) : ∀ (ds : List Int) (x : Int), 0 ≤ x → x ≤ cap →
    (runS cap x ds).sum = (runS cap 0 ds).sum + (if 0 > x + endC cap 0 ds.reverse - cap then 0 else x + endC cap 0 ds.reverse - cap)
  | [], x, h0, h1 => by
    show (0 : Int) = 0 + (if 0 > x + 0 - cap then 0 else x + 0 - cap)
    split <;> omega
  | d :: ds, x, h0, h1 => by
    have er : endC cap 0 (d :: ds).reverse = stepC cap (endC cap 0 ds.reverse) d := by
      rw [List.reverse_cons, endC_app]
      rfl
    have re := end_range (cap := cap) 0 ds.reverse (Int.le_refl 0) hc
    have r1 := step_range (cap := cap) (c := x) (d := d) hc
    have r2 := step_range (cap := cap) (c := 0) (d := d) hc
    have i1 := spill_start hc ds (stepC cap x d) r1.1 r1.2
    have i2 := spill_start hc ds (stepC cap 0 d) r2.1 r2.2
    rw [er]
    show stepS cap x d + (runS cap (stepC cap x d) ds).sum = (stepS cap 0 d + (runS cap (stepC cap 0 d) ds).sum) + _
    rw [i1, i2]
    generalize endC cap 0 ds.reverse = e at *
    generalize (runS cap 0 ds).sum = z at *
    clear i1 i2 er
    have a := step_cases (c := x) (d := d) hc
    have b := step_cases (c := 0) (d := d) hc
    have c := step_cases (c := e) (d := d) hc
    generalize stepC cap x d = a1 at *
    generalize stepC cap 0 d = b1 at *
    generalize stepC cap e d = c1 at *
    generalize stepS cap x d = a2 at *
    generalize stepS cap 0 d = b2 at *
    rcases a with a | a | a <;> rcases b with b | b | b <;> rcases c with c | c | c <;> (repeat' split) <;> omega
theorem spill_rev {cap : Int} (hc : 0 ≤ cap) : ∀ ds : List Int, (runS cap 0 ds.reverse).sum = (runS cap 0 ds).sum
  | [] => rfl
  | d :: ds => by
    have re := end_range (cap := cap) 0 ds.reverse (Int.le_refl 0) hc
    have r2 := step_range (cap := cap) (c := 0) (d := d) hc
    have i2 := spill_start hc ds (stepC cap 0 d) r2.1 r2.2
    have ih := spill_rev hc ds
    rw [List.reverse_cons, runS_app, List.sum_append, ih]
    show _ + (stepS cap (endC cap 0 ds.reverse) d + 0) = stepS cap 0 d + (runS cap (stepC cap 0 d) ds).sum
    rw [i2]
    generalize endC cap 0 ds.reverse = e at *
    generalize (runS cap 0 ds).sum = z at *
    clear i2 ih
    have b := step_cases (c := 0) (d := d) hc
    have c := step_cases (c := e) (d := d) hc
    generalize stepC cap 0 d = b1 at *
    generalize stepS cap 0 d = b2 at *
    generalize stepS cap e d = c2 at *
    rcases b with b | b | b <;> rcases c with c | c | c <;> (repeat' split) <;> omega
theorem lack_rev {cap : Int} (hc : 0 ≤ cap) (ds : List Int) : (runL cap cap ds.reverse).sum = (runL cap cap ds).sum := by
  have h1 := (run_neg (cap := cap) cap ds.reverse hc (Int.le_refl _)).2.1
  have h2 := (run_neg (cap := cap) cap ds hc (Int.le_refl _)).2.1
  rw [Int.sub_self] at h1 h2
  rw [← h1, ← h2, List.map_reverse]
  exact spill_rev hc _
end Sp
end

section
set_option maxHeartbeats 1000000
namespace Sp
open PySem PySem.Spec PyProof.Rows L2
/-- data that can be laid, at most n deep -/
def Sh (n : Nat) (d : PyData) : Prop := d.canLay0 = true ∧ d.depth ≤ n
theorem Sh.shaped {n : Nat} {d : PyData} (h : Sh n d) (hn : n ≤ 64) : SeqAt.shaped d = true := by
  unfold SeqAt.shaped
  rw [h.1, decide_eq_true (Nat.le_trans h.2 hn)]
  rfl
theorem Sh.refl {n : Nat} {d : PyData} (h : Sh n d) : PyData.eqv d d = true := SeqAt.eqv_refl d h.1
theorem Sh.mono {n m : Nat} {d : PyData} (h : Sh n d) (hn : n ≤ m) : Sh m d := ⟨h.1, Nat.le_trans h.2 hn⟩
theorem sh_int {n : Nat} (i : Int) : Sh n (.int i) := ⟨rfl, by simp [PyData.depth]⟩
theorem sh_bool {n : Nat} (b : Bool) : Sh n (.bool b) := ⟨rfl, by simp [PyData.depth]⟩
theorem sh_none {n : Nat} : Sh n .none := ⟨rfl, by simp [PyData.depth]⟩
theorem shAll {n : Nat} : ∀ ds : List PyData, (∀ d ∈ ds, Sh n d) → PyData.canLayAll0 ds = true ∧ PyData.depthAll ds ≤ n
  | [], _ => ⟨rfl, by simp [PyData.depthAll]⟩
  | d :: ds, h => by
    have h1 := h d List.mem_cons_self
    have h2 := shAll ds fun x hx => h x (List.mem_cons_of_mem _ hx)
    refine ⟨by simp [PyData.canLayAll0, h1.1, h2.1], ?_⟩
    simp only [PyData.depthAll]
    exact Nat.max_le.mpr ⟨h1.2, h2.2⟩
theorem sh_list {n : Nat} {ds : List PyData} (h : ∀ d ∈ ds, Sh n d) : Sh (n + 1) (.list ds) := by
  have q := shAll ds h
  refine ⟨by simp only [PyData.canLay0]; exact q.1, ?_⟩
  simp only [PyData.depth]
  omega
theorem sh_tup {n : Nat} {ds : List PyData} (h : ∀ d ∈ ds, Sh n d) : Sh (n + 1) (.tuple ds) := by
  have q := shAll ds h
  refine ⟨by simp only [PyData.canLay0]; exact q.1, ?_⟩
  simp only [PyData.depth]
  omega
def pdI (ns : List Int) : PyData := .list (ns.map .int)
theorem sh_pdI (ns : List Int) : Sh 1 (pdI ns) := sh_list fun d hd => by
  obtain ⟨n, _, rfl⟩ := List.mem_map.mp hd
  exact sh_int n
section
variable {K : PySem.W.Frag} {H : Hp}
theorem dpAll_ints : ∀ ns : List Int, DpAll K H (ns.map V.int) (ns.map PyData.int)
  | [] => .nil
  | n :: ns => .cons (.int n) (dpAll_ints ns)
theorem dp_ints {a : Addr} {ns : List Int} (h : H a = some (.lst (ns.map V.int))) : Dp K H (.ref a) (pdI ns) := .lst (sq h) (dpAll_ints ns)
theorem dp_intsR {a : Addr} {ns : List Int} (h : Rd H a (.lst (ns.map V.int))) : Dp K H (.ref a) (pdI ns) := .lst (rd_seq h) (dpAll_ints ns)
/-- three lists of ints in a tuple -/
def pd3 (xs ys zs : List Int) : PyData := .tuple [pdI xs, pdI ys, pdI zs]
theorem sh_pd3 (xs ys zs : List Int) : Sh 2 (pd3 xs ys zs) := sh_tup fun d hd => by
  simp only [List.mem_cons, List.not_mem_nil, or_false] at hd
  rcases hd with rfl | rfl | rfl <;> exact sh_pdI _
theorem dp_3 {t a b c : Addr} {xs ys zs : List Int} (h : H t = some (.tup [.ref a, .ref b, .ref c])) (ha : H a = some (.lst (xs.map V.int))) (hb : H b = some (.lst (ys.map V.int))) (hc : H c = some (.lst (zs.map V.int))) : Dp K H (.ref t) (pd3 xs ys zs) :=
  .tup (sqt h) (.cons (dp_ints ha) (.cons (dp_ints hb) (.cons (dp_ints hc) .nil)))
end
end Sp
end

section
set_option maxHeartbeats 2000000
/-! The end: the law's promise at the heap behind the top, with the tables of the defs that hold a generator expression. -/
namespace Sp
open PySem PySem.W PySem.Calls PyProof.Rows L2
/-- what the top tells of the defs' code objects -/
def TabsOf (q : Program) (mg : Str → Option Value) (h : Heap) : Prop :=
  ∀ (nm : Str) (f : Addr), ((recsOf q).any fun e => e.name == nm) = true → mg nm = some (.ref f) → ∃ (o : Obj) (fd : FuncData) (c P : Addr), h.get? f = some o ∧ o.data = .func fd ∧ fd.code = .ref c ∧ CodeHd h c P ∧ h.TableAt c P #[]
theorem walk_tabs {l : OpenLaw} {n k : Nat} {q : Program} {loose : List Str} {XP : (Str → Option Value) → Heap → Prop} {YP : World → Heap → Prop} {d : DefRec} {K : Params → Frag} {CX : World → CXT} {x : Str}
    (hn : l.most = some n) (hn2 : n ≤ sizeLine) (hdf : d.params.defaults = []) (room : L2.Room k callerA) (hY : ∀ (w : World) (h : Heap), YP w h → (K w.params).In h)
    (F : ∀ (w : World) (mg : Str → Option Value) (fa : Addr) (h : Heap), (K w.params).In h → h.Ns mainGlobals mg → mg d.name = some (.ref fa) → TabsOf q mg h → LamX.LawAtS l w (K w.params) (CX w) k n x mg fa h)
    (hCX : ∀ (w : World) (H : Hp) (s : Shared) (e : Value) (s' : Shared), CX w [] H s (fun _ _ _ => False) e s' → False) :
    WalkO q loose XP YP l.row.toRowW d [] (fun f vs => PySem.call f vs) := by
  refine Att.attach_callB hn hdf fun w _ s mg mb fa _ _ _ _ a vs ns Gd Yh _ _ _ hmg hobj hints hlen hbits hg => ?_
  have KX := hY w _ Yh
  have T : TabsOf q mg s.heap := fun nm f hr hm => by
    obtain ⟨r, rm, rn⟩ := List.any_eq_true.mp hr
    obtain ⟨a, o, fd, c, P, t1, t2, t3, t4, t5, t6⟩ := Gd.T.tab r rm
    rw [beq_iff_eq.mp rn, hm] at t1
    cases t1
    exact ⟨o, fd, c, P, t2, t3, t4, CodeHd.of t5 t6, t6⟩
  obtain ⟨fd, cs, sp, c1, c2, c3, c4, c5, c6⟩ := F w mg fa _ KX Gd.T.g hmg T
  exact LamX.law_callTs KX Gd.T.g Gd.T.b Gd.T.builtins Gd.T.nolimit hg c1 c2 c3 Gd.T.bmain hobj hints (Nat.le_trans hlen hn2) room c6 c4 (fun H hH hS => c5 H a ns hlen hbits hH hS) fun H e s' => hCX w H s e s'
/-- the table of the def at f -/
theorem tab_of {q : Program} {K : Frag} {mg : Str → Option Value} {h : Heap} (KX : K.In h) (T : TabsOf q mg h) {nm : Str} {f c P : Addr} {oc e : Value} {od dd : Option Addr} {fd : FuncData} {osl sl : Array (Option Value)} {vs : Array Value}
    (hr : ((recsOf q).any fun e => e.name == nm) = true) (hm : mg nm = some (.ref f)) (lk : K.lookup f = some ⟨oc, od, .func fd, osl⟩) (cd : fd.code = .ref c) (lc : K.lookup c = some ⟨e, dd, .fields vs, sl⟩) (hv : vs[11]? = some (.ref P)) :
    CodeHd h c P ∧ h.get? P = some { cls := .none, data := .fields #[] } := by
  obtain ⟨o, fd', c', P', t1, t2, t3, t4, t5⟩ := T nm f hr hm
  rw [KX _ _ lk] at t1
  cases t1
  cases t2
  rw [cd] at t3
  cases t3
  obtain ⟨⟨o2, vc, u1, _, u3, u4⟩, u5⟩ := t5
  rw [KX _ _ lc] at u1
  cases u1
  cases u3
  rw [hv] at u4
  cases u4
  exact ⟨t4, u5⟩
theorem tabg0 {H : Hp} {P : Addr} (h : H P = some (.tbl #[])) : GxR.TabG H P := ⟨#[], h, by simp [TriplesOk]⟩
theorem tabB {base : Heap} {mg : Str → Option Value} {c P : Addr} (t : LamX.TabB base mg c P) : GxR.TabB base mg c P := ⟨t.code, t.bm, t.gP⟩
end Sp
end

section
set_option maxHeartbeats 2000000
namespace Sp
open PySem PySem.Spec PyProof.Rows L2
/-- for k, x in enumerate(list): each pair is a new tuple -/
theorem for_enum {K : PySem.W.Frag} {a : Addr} {xs : List V} {g : TG} {tb : TS} {D : Ends} {σ : L2.St} {H : Hp} (Pv : Nat → L2.St → Hp → Prop) (h0 : Pv 0 σ H) (hl : ∀ i σ H, i ≤ xs.length → Pv i σ H → SqL K H a xs)
    (hs : ∀ i x σ H T, xs[i]? = some x → Pv i σ H → H T = none → g (.ref T) σ (upd H T (.tup [.int (i : Nat), x])) fun σ2 H2 => tb { D with nx := Pv (i + 1), ct := Pv (i + 1), bk := D.nx } σ2 H2) (hd : ∀ σ H, Pv xs.length σ H → D.nx σ H) :
    ∃ W : Nat → Nat → L2.St → Hp → Prop, (∃ m, W 0 m σ H) ∧ ∀ i m σ H, W i m σ H →
      ((Ite K a).stop i H ∧ D.nx σ H) ∨ ((Ite K a).go i H ∧ ∃ N : L2.St → Hp → Prop, (∀ s' H', N s' H' → ∃ m', m' < m ∧ W (i + 1) m' s' H') ∧ ∀ x H', (Ite K a).yld i H x H' → g x σ H' fun σ2 H2 => tb { D with nx := N, ct := N, bk := D.nx } σ2 H2) := by
  refine ⟨fun i m σ H => m = xs.length - i ∧ i ≤ xs.length ∧ Pv i σ H, ⟨_, rfl, Nat.zero_le _, h0⟩, ?_⟩
  rintro i m σ H ⟨rfl, hi, p⟩
  have q := hl i σ H hi p
  by_cases lt : i < xs.length
  · refine .inr ⟨⟨xs, xs[i], q, List.getElem?_eq_getElem lt⟩, Pv (i + 1), fun s' H' p' => ⟨xs.length - (i + 1), by omega, rfl, lt, p'⟩, fun x H' y => ?_⟩
    obtain ⟨T, z, rfl, nT, rfl, hz⟩ := y
    exact hs i z σ H T (hz xs q) p nT
  · have e : i = xs.length := by omega
    subst e
    exact .inl ⟨⟨xs, q, Nat.le_refl _⟩, hd σ H p⟩
/-- [f(x) for x in xs if keep(x)]: R is what is wanted of an item, S of one that is left out -/
theorem lc_gen {K : PySem.W.Frag} {a : Addr} {xs : List V} (keep : V → Bool) (f : V → V) {g : TG} {tt : TT} {te : TE} {vs : List Nat} {σ : L2.St} {H1 : Hp} {D : Addr} {Qd : Hp → Prop} (hD : H1 D = none) (hn : xs.length ≤ 1000000)
    (ha : SqL K H1 a xs)
    (hs : ∀ (i : Nat) (z : V) (H : Hp) (R : V → Hp → Prop) (S : Hp → Prop), xs[i]? = some z → Ex [] H1 H → H D ≠ none → (keep z = true → ∀ H4, Ex [] H H4 → R (f z) H4) → (keep z = false → ∀ H4, Ex [] H H4 → S H4) →
      g z (wipe σ vs) H fun σ2 H2 => wipe σ2 vs = wipe σ vs ∧ tt σ2 H2 fun b H3 => if b = true then te σ2 H3 R else S H3)
    (hd : ∀ H, Ex [] H1 H → H D = some (.lst ((xs.filter keep).map f)) → Qd H) :
    ∃ W : Nat → Nat → Hp → Prop, (∃ m, W 0 m (upd H1 D (.lst []))) ∧ ∀ i m H, W i m H →
      ((Itl K a).stop i H ∧ Qd H) ∨ ((Itl K a).go i H ∧ ∃ Nx : Hp → Prop, (∀ H', Nx H' → ∃ m', m' < m ∧ W (i + 1) m' H') ∧ ∀ x H', (Itl K a).yld i H x H' → g x (wipe σ vs) H' fun σ2 H2 => wipe σ2 vs = wipe σ vs ∧ tt σ2 H2 fun b H3 =>
        if b = true then te σ2 H3 fun y H4 => ∃ acc, H4 D = some (.lst acc) ∧ acc.length < sizeLine ∧ Nx (upd H4 D (.lst (acc ++ [y]))) else Nx H3) := by
  have old : ∀ H, Ex [D] (upd H1 D (.lst [])) H → SqL K H a xs := fun H e => by
    rcases ha with (h | ⟨o, h⟩) | h
    · have n := ne_of_none h hD
      exact .inl (.inl (e.keep a _ (n1 n) (by rw [upd_ne n]; exact h) fun _ z => nomatch z))
    · have n := ne_of_none h hD
      exact .inl (.inr ⟨o, e.keep a _ (n1 n) (by rw [upd_ne n]; exact h) fun _ z => nomatch z⟩)
    · exact .inr h
  have fin : ∀ H, Ex [D] (upd H1 D (.lst [])) H → Ex [] H1 H := fun H e => Ex.drop (C := [D]) ((Ex.new hD).trans e) fun x hx => by rw [List.mem_singleton.mp hx]; exact hD
  refine ⟨fun i m H => m = xs.length - i ∧ i ≤ xs.length ∧ Ex [D] (upd H1 D (.lst [])) H ∧ H D = some (.lst (((xs.take i).filter keep).map f)), ⟨_, rfl, Nat.zero_le _, Ex.refl _, upd_same⟩, ?_⟩
  rintro i m H ⟨rfl, hi, e, hh⟩
  by_cases lt : i < xs.length
  · have gi : xs[i]? = some xs[i] := List.getElem?_eq_getElem lt
    refine .inr ⟨⟨_, _, old H e, gi⟩, fun H' => i + 1 ≤ xs.length ∧ Ex [D] (upd H1 D (.lst [])) H' ∧ H' D = some (.lst (((xs.take (i + 1)).filter keep).map f)), fun H' p => ⟨xs.length - (i + 1), by omega, rfl, p⟩, fun x H' y => ?_⟩
    obtain ⟨rfl, hy⟩ := y
    have ex : x = xs[i] := Option.some.inj ((hy _ (old _ e)).symm.trans gi)
    subst ex
    refine hs i xs[i] _ _ _ gi (fin _ e) (by rw [hh]; exact fun z => nomatch z) (fun hk H4 e4 => ?_) (fun hk H4 e4 => ?_)
    · have h4 := e4.lst hh
      refine ⟨_, h4, ?_, lt, (e.trans e4.up).trans (Ex.set h4 (fun _ z => nomatch z) (by simp)), ?_⟩
      · rw [List.length_map]
        have q1 := List.length_filter_le keep (xs.take i)
        rw [List.length_take] at q1
        exact Nat.lt_of_le_of_lt (by omega : _ ≤ 1000000) (by decide)
      · rw [upd_same, List.take_add_one, gi, List.filter_append, List.map_append]
        simp [hk]
    · refine ⟨lt, e.trans e4.up, ?_⟩
      rw [e4.lst hh, List.take_add_one, gi, List.filter_append]
      simp [hk]
  · have ei : i = xs.length := by omega
    subst ei
    rw [List.take_length] at hh
    exact .inl ⟨⟨_, old H e, Nat.le_refl _⟩, hd H (fin H e) hh⟩
/-- [f(x) for x in xs] over whole numbers -/
theorem lc_ints {K : PySem.W.Frag} {a : Addr} {ns : List Int} (f : Int → Int) {g : TG} {tt : TT} {te : TE} {vs : List Nat} {σ : L2.St} {H1 : Hp} {D : Addr} {Qd : Hp → Prop} (hD : H1 D = none) (hn : ns.length ≤ 1000000)
    (ha : SqL K H1 a (ns.map V.int))
    (hs : ∀ (i : Nat) (z : Int) (H : Hp) (R : V → Hp → Prop) (S : Hp → Prop), ns[i]? = some z → Ex [] H1 H → (∀ H4, Ex [] H H4 → R (.int (f z)) H4) →
      g (.int z) (wipe σ vs) H fun σ2 H2 => wipe σ2 vs = wipe σ vs ∧ tt σ2 H2 fun b H3 => if b = true then te σ2 H3 R else S H3)
    (hd : ∀ H, Ex [] H1 H → H D = some (.lst ((ns.map f).map V.int)) → Qd H) :
    ∃ W : Nat → Nat → Hp → Prop, (∃ m, W 0 m (upd H1 D (.lst []))) ∧ ∀ i m H, W i m H →
      ((Itl K a).stop i H ∧ Qd H) ∨ ((Itl K a).go i H ∧ ∃ Nx : Hp → Prop, (∀ H', Nx H' → ∃ m', m' < m ∧ W (i + 1) m' H') ∧ ∀ x H', (Itl K a).yld i H x H' → g x (wipe σ vs) H' fun σ2 H2 => wipe σ2 vs = wipe σ vs ∧ tt σ2 H2 fun b H3 =>
        if b = true then te σ2 H3 fun y H4 => ∃ acc, H4 D = some (.lst acc) ∧ acc.length < sizeLine ∧ Nx (upd H4 D (.lst (acc ++ [y]))) else Nx H3) := by
  refine lc_gen (fun _ => true) (fun v => match v with | .int z => .int (f z) | v => v) hD (by rw [List.length_map]; exact hn) ha (fun i z H R S hz e _ r _ => ?_) fun H e h => hd H e ?_
  · obtain ⟨n, rfl, hn⟩ := map_at hz
    exact hs i n H R S hn e (r rfl)
  · rw [h, List.filter_eq_self.mpr (fun _ _ => rfl), List.map_map, List.map_map]
    rfl
/-- the same over a range -/
theorem lc_rng {lo : Int} {n : Nat} (f : Nat → V) {g : TG} {tt : TT} {te : TE} {vs : List Nat} {σ : L2.St} {H1 : Hp} {D : Addr} {Qd : Hp → Prop} (hD : H1 D = none) (hn : n ≤ 1000000)
    (hs : ∀ (i : Nat) (H : Hp) (R : V → Hp → Prop) (S : Hp → Prop), i < n → Ex [] H1 H → H D ≠ none → (∀ H4, Ex [] H H4 → R (f i) H4) →
      g (.int (lo + i)) (wipe σ vs) H fun σ2 H2 => wipe σ2 vs = wipe σ vs ∧ tt σ2 H2 fun b H3 => if b = true then te σ2 H3 R else S H3)
    (hd : ∀ H, Ex [] H1 H → H D = some (.lst ((List.range n).map f)) → Qd H) :
    ∃ W : Nat → Nat → Hp → Prop, (∃ m, W 0 m (upd H1 D (.lst []))) ∧ ∀ i m H, W i m H →
      ((Itr lo n).stop i H ∧ Qd H) ∨ ((Itr lo n).go i H ∧ ∃ Nx : Hp → Prop, (∀ H', Nx H' → ∃ m', m' < m ∧ W (i + 1) m' H') ∧ ∀ x H', (Itr lo n).yld i H x H' → g x (wipe σ vs) H' fun σ2 H2 => wipe σ2 vs = wipe σ vs ∧ tt σ2 H2 fun b H3 =>
        if b = true then te σ2 H3 fun y H4 => ∃ acc, H4 D = some (.lst acc) ∧ acc.length < sizeLine ∧ Nx (upd H4 D (.lst (acc ++ [y]))) else Nx H3) := by
  have fin : ∀ H, Ex [D] (upd H1 D (.lst [])) H → Ex [] H1 H := fun H e => Ex.drop (C := [D]) ((Ex.new hD).trans e) fun x hx => by rw [List.mem_singleton.mp hx]; exact hD
  refine lc_range (fun i H => i ≤ n ∧ Ex [D] (upd H1 D (.lst [])) H ∧ H D = some (.lst ((List.range i).map f))) ⟨Nat.zero_le _, Ex.refl _, upd_same⟩ (fun i H lt ⟨hi, e, hh⟩ => ?_) fun H ⟨_, e, hh⟩ => hd H (fin H e) hh
  refine hs i H _ _ lt (fin H e) (by rw [hh]; exact fun z => nomatch z) fun H4 e4 => ?_
  have h4 := e4.lst hh
  refine ⟨_, h4, ?_, lt, (e.trans e4.up).trans (Ex.set h4 (fun _ z => nomatch z) (by simp)), ?_⟩
  · rw [List.length_map, List.length_range]
    exact Nat.lt_of_le_of_lt (by omega : _ ≤ 1000000) (by decide)
  · rw [upd_same, List.range_succ, List.map_append]
    rfl
end Sp
end

section
set_option maxHeartbeats 1000000
/-! Programs by their data alone: what stands in a slot is a datum, or a list of the def's own. -/
namespace Sp
open PySem PySem.Spec PyProof.Rows L2
/-- a dict's key as a datum -/
def kD : Key → PyData
  | .inl i => .int i
  | .inr z => .str z
/-! ### a value that stands for a datum -/
mutual
inductive Dv (H : Hp) : V → PyData → Prop
  | non : Dv H .non .none
  | bl (b : Bool) : Dv H (.bl b) (.bool b)
  | int (i : Int) : Dv H (.int i) (.int i)
  | str (z : Str) : Dv H (.str z) (.str z)
  | lst {a : Addr} {vs : List V} {ds : List PyData} : H a = some (.lst vs) → DvA H vs ds → Dv H (.ref a) (.list ds)
  | tup {a : Addr} {vs : List V} {ds : List PyData} : H a = some (.tup vs) → DvA H vs ds → Dv H (.ref a) (.tuple ds)
  | dic {a : Addr} {kvs : List (Key × V)} {ds : List (PyData × PyData)} : H a = some (.dK kvs) → DvK H kvs ds → Dv H (.ref a) (.dict ds)
inductive DvA (H : Hp) : List V → List PyData → Prop
  | nil : DvA H [] []
  | cons {v : V} {vs : List V} {d : PyData} {ds : List PyData} : Dv H v d → DvA H vs ds → DvA H (v :: vs) (d :: ds)
inductive DvK (H : Hp) : List (Key × V) → List (PyData × PyData) → Prop
  | nil : DvK H [] []
  | cons {k : Key} {v : V} {vs : List (Key × V)} {d : PyData} {ds : List (PyData × PyData)} : Dv H v d → DvK H vs ds → DvK H ((k, v) :: vs) ((kD k, d) :: ds)
end
/-- all but tables of G stands in G' -/
def Le (G G' : Hp) : Prop := ∀ a o, G a = some o → (∀ ps, o ≠ .tbl ps) → G' a = some o
theorem Le.rfl {G : Hp} : Le G G := fun _ _ e _ => e
theorem Le.trans {G G1 G2 : Hp} (a : Le G G1) (b : Le G1 G2) : Le G G2 := fun x o e n => b x o (a x o e n) n
mutual
theorem Dv.le {G G' : Hp} (l : Le G G') : ∀ (d : PyData) (v : V), Dv G v d → Dv G' v d
  | .none, _, h => by cases h; exact .non
  | .bool b, _, h => by cases h; exact .bl b
  | .int i, _, h => by cases h; exact .int i
  | .str z, _, h => by cases h; exact .str z
  | .list ds, _, h => by
    cases h with
    | lst e a => exact .lst (l _ _ e fun _ z => nomatch z) (DvA.le l ds _ a)
  | .tuple ds, _, h => by
    cases h with
    | tup e a => exact .tup (l _ _ e fun _ z => nomatch z) (DvA.le l ds _ a)
  | .dict ds, _, h => by
    cases h with
    | dic e a => exact .dic (l _ _ e fun _ z => nomatch z) (DvK.le l ds _ a)
theorem DvA.le {G G' : Hp} (l : Le G G') : ∀ (ds : List PyData) (vs : List V), DvA G vs ds → DvA G' vs ds
  | [], _, h => by cases h; exact .nil
  | d :: ds, _, h => by
    cases h with
    | cons a b => exact .cons (Dv.le l d _ a) (DvA.le l ds _ b)
theorem DvK.le {G G' : Hp} (l : Le G G') : ∀ (ds : List (PyData × PyData)) (vs : List (Key × V)), DvK G vs ds → DvK G' vs ds
  | [], _, h => by cases h; exact .nil
  | (_, d) :: ds, _, h => by
    cases h with
    | cons a b => exact .cons (Dv.le l d _ a) (DvK.le l ds _ b)
end
theorem DvA.len {G : Hp} : ∀ {vs : List V} {ds : List PyData}, DvA G vs ds → vs.length = ds.length
  | _, _, .nil => rfl
  | _, _, .cons _ h => congrArg (· + 1) h.len
theorem DvA.get {G : Hp} : ∀ {vs : List V} {ds : List PyData} {i : Nat} {d : PyData}, DvA G vs ds → ds[i]? = some d → ∃ v, vs[i]? = some v ∧ Dv G v d
  | _, _, _, _, .nil, h => by simp at h
  | _, _, 0, _, .cons a _, h => ⟨_, rfl, by cases (Option.some.inj h); exact a⟩
  | _, _, i + 1, _, .cons _ b, h => DvA.get (i := i) b (by simpa using h)
theorem DvA.get' {G : Hp} : ∀ {vs : List V} {ds : List PyData} {i : Nat} {v : V}, DvA G vs ds → vs[i]? = some v → ∃ d, ds[i]? = some d ∧ Dv G v d
  | _, _, _, _, .nil, h => by simp at h
  | _, _, 0, _, .cons a _, h => ⟨_, rfl, by cases (Option.some.inj h); exact a⟩
  | _, _, i + 1, _, .cons _ b, h => DvA.get' (i := i) b (by simpa using h)
theorem DvA.app {G : Hp} : ∀ {vs ws : List V} {ds es : List PyData}, DvA G vs ds → DvA G ws es → DvA G (vs ++ ws) (ds ++ es)
  | _, _, _, _, .nil, h => h
  | _, _, _, _, .cons a b, h => .cons a (b.app h)
theorem DvA.drop {G : Hp} : ∀ {vs : List V} {ds : List PyData} (n : Nat), DvA G vs ds → DvA G (vs.drop n) (ds.drop n)
  | _, _, 0, h => h
  | _, _, _ + 1, .nil => .nil
  | _, _, n + 1, .cons _ b => b.drop n
theorem DvA.take {G : Hp} : ∀ {vs : List V} {ds : List PyData} (n : Nat), DvA G vs ds → DvA G (vs.take n) (ds.take n)
  | _, _, 0, _ => .nil
  | _, _, _ + 1, .nil => .nil
  | _, _, n + 1, .cons a b => .cons a (b.take n)
theorem DvA.rev {G : Hp} : ∀ {vs : List V} {ds : List PyData}, DvA G vs ds → DvA G vs.reverse ds.reverse
  | _, _, .nil => .nil
  | _, _, .cons a b => by
    rw [List.reverse_cons, List.reverse_cons]
    exact b.rev.app (.cons a .nil)
theorem DvA.set {G : Hp} {v : V} {d : PyData} (h : Dv G v d) : ∀ {vs : List V} {ds : List PyData} (n : Nat), DvA G vs ds → DvA G (vs.set n v) (ds.set n d)
  | _, _, _, .nil => .nil
  | _, _, 0, .cons _ b => .cons h b
  | _, _, n + 1, .cons a b => .cons a (b.set h n)
theorem DvA.ints {G : Hp} : ∀ {vs : List V} {ns : List Int}, DvA G vs (ns.map .int) → vs = ns.map V.int
  | [], [], _ => rfl
  | _, n :: ns, h => by
    cases h with
    | cons a b =>
      cases a
      rw [b.ints]
      rfl
  | _ :: _, [], h => by cases h
theorem DvA.ofInts {G : Hp} : ∀ ns : List Int, DvA G (ns.map V.int) (ns.map PyData.int)
  | [] => .nil
  | n :: ns => .cons (.int n) (DvA.ofInts ns)
mutual
theorem Dv.dp {K : PySem.W.Frag} {G : Hp} : ∀ (d : PyData) (v : V), d.canLay0 = true → Dv G v d → Dp K G v d
  | .none, _, _, h => by cases h; exact .non
  | .bool b, _, _, h => by cases h; exact .bl b
  | .int i, _, _, h => by cases h; exact .int i
  | .str z, _, _, h => by cases h; exact .str z
  | .list ds, _, c, h => by
    cases h with
    | lst e a => exact .lst (sq e) (DvA.dp ds _ (by simpa only [PyData.canLay0] using c) a)
  | .tuple ds, _, c, h => by
    cases h with
    | tup e a => exact .tup (sqt e) (DvA.dp ds _ (by simpa only [PyData.canLay0] using c) a)
  | .dict ds, _, c, h => by simp [PyData.canLay0] at c
theorem DvA.dp {K : PySem.W.Frag} {G : Hp} : ∀ (ds : List PyData) (vs : List V), PyData.canLayAll0 ds = true → DvA G vs ds → DpAll K G vs ds
  | [], _, _, h => by cases h; exact .nil
  | d :: ds, _, c, h => by
    cases h with
    | cons a b =>
      have c' : d.canLay0 = true ∧ PyData.canLayAll0 ds = true := by simpa [PyData.canLayAll0] using c
      exact .cons (Dv.dp d _ c'.1 a) (DvA.dp ds _ c'.2 b)
end
/-! ### what is hidden -/
open Classical in
noncomputable def hide (hd : Addr → Prop) (H : Hp) : Hp := fun a => if hd a then none else H a
theorem hide_some {hd : Addr → Prop} {H : Hp} {a : Addr} {o : HO} (h : hide hd H a = some o) : ¬ hd a ∧ H a = some o := by
  unfold hide at h
  split at h
  · cases h
  · exact ⟨by assumption, h⟩
theorem hide_of {hd : Addr → Prop} {H : Hp} {a : Addr} {o : HO} (n : ¬ hd a) (h : H a = some o) : hide hd H a = some o := by
  unfold hide
  rw [if_neg n]
  exact h
theorem hide_le {hd : Addr → Prop} {H : Hp} : Le (hide hd H) H := fun a o e _ => (hide_some e).2
/-- the entry of a def: the heap, what may be changed, what is hidden from it, what stays -/
structure Fr where
  H0 : Hp
  C : List Addr
  hd : Addr → Prop
  ps : List (V × PyData)
/-- the slots' own lists -/
abbrev Ow := Nat → Option Addr
def hid (F : Fr) (O : Ow) : Addr → Prop := fun a => F.hd a ∨ ∃ i, O i = some a
noncomputable abbrev vw (F : Fr) (O : Ow) (H : Hp) : Hp := hide (hid F O) H
/-- what is known of a slot: nothing, a datum, an own list, a cask, a value as it is, a thing of which more is known -/
inductive SV where
  | u
  | d (x : PyData)
  | o (xs : List PyData)
  | c (a : Addr) (M : Int)
  | r (v : V)
  | x (a : Addr) (ts : List (Addr × HO))
abbrev En := List SV
def RS (F : Fr) (O : Ow) (H : Hp) (i : Nat) : SV → Option V → Prop
  | .u, _ => True
  | .d x, s => ∃ v, s = some v ∧ Dv (vw F O H) v x
  | .o xs, s => ∃ a vs, s = some (.ref a) ∧ O i = some a ∧ H a = some (.lst vs) ∧ DvA (vw F O H) vs xs
  | .c a M, s => s = some (.ref a) ∧ O i = some a ∧ CaskAt H a M
  | .r v, s => s = some v
  | .x a ts, s => s = some (.ref a) ∧ ∀ p ∈ ts, ¬ hid F O p.1 ∧ H p.1 = some p.2 ∧ ∀ ps, p.2 ≠ .tbl ps
structure Rep (Tb : List Addr) (F : Fr) (O : Ow) (σ : L2.St) (H : Hp) (env : En) : Prop where
  ex : Ex F.C F.H0 H
  tb : ∀ T ∈ Tb, GxR.TabG H T
  len : env.length = σ.length
  sl : ∀ i s v, env[i]? = some s → σ[i]? = some v → RS F O H i s v
  hdn : ∀ a, F.hd a → F.H0 a ≠ none
  own : ∀ i a, O i = some a → a ∈ F.C ∨ F.H0 a = none
  ow : ∀ i a, O i = some a → (∃ xs, env[i]? = some (.o xs)) ∨ ∃ M, env[i]? = some (.c a M)
  onh : ∀ i a, O i = some a → F.hd a → ∃ M, env[i]? = some (.c a M)
  inj : ∀ i j a, O i = some a → O j = some a → i = j
  ps : ∀ p ∈ F.ps, Dv (vw F O H) p.1 p.2
/-- what is not hidden stays -/
def Gr (F : Fr) (O : Ow) (H H' : Hp) : Prop := ∀ a o, ¬ hid F O a → H a = some o → (∀ ps, o ≠ .tbl ps) → H' a = some o
theorem Gr.rfl {F : Fr} {O : Ow} {H : Hp} : Gr F O H H := fun _ _ _ e _ => e
theorem Gr.trans {F : Fr} {O : Ow} {H H1 H2 : Hp} (a : Gr F O H H1) (b : Gr F O H1 H2) : Gr F O H H2 := fun x o n e t => b x o n (a x o n e t) t
theorem Gr.le {F : Fr} {O : Ow} {H H' : Hp} (g : Gr F O H H') : Le (vw F O H) (vw F O H') := fun a o e t => by
  obtain ⟨n, e⟩ := hide_some e
  exact hide_of n (g a o n e t)
/-- an expression's end: a datum, or a slot's own list -/
inductive W where
  | d (x : PyData)
  | own (i : Nat)
def RW (F : Fr) (O : Ow) (H : Hp) (v : V) : W → Prop
  | .d x => Dv (vw F O H) v x
  | .own i => ∃ a, v = .ref a ∧ O i = some a
theorem RW.gr {F : Fr} {O : Ow} {H H' : Hp} (g : Gr F O H H') {v : V} : ∀ {w : W}, RW F O H v w → RW F O H' v w
  | .d x, h => Dv.le g.le x v h
  | .own _, h => h
def lk (env : En) : W → Option PyData
  | .d x => some x
  | .own i => match env[i]? with
    | some (.o xs) => some (.list xs)
    | _ => none
/-- a datum, its items not hidden -/
def Dl (G H : Hp) (v : V) (x : PyData) : Prop := Dv G v x ∨ ∃ a vs xs, v = .ref a ∧ x = .list xs ∧ H a = some (.lst vs) ∧ DvA G vs xs
theorem Dl.dv {G H : Hp} (l : Le G H) {v : V} {x : PyData} (h : Dl G H v x) : Dv H v x := by
  rcases h with h | ⟨a, vs, xs, rfl, rfl, e, h⟩
  · exact Dv.le l _ _ h
  · exact .lst e (DvA.le l _ _ h)
section
variable {Tb : List Addr} {F : Fr} {O : Ow} {σ : L2.St} {H H' : Hp} {env : En}
theorem Rep.slot (R : Rep Tb F O σ H env) {i : Nat} {s : SV} (e : env[i]? = some s) : ∃ v, σ[i]? = some v ∧ RS F O H i s v := by
  have h : i < σ.length := by
    rw [← R.len]
    exact (List.getElem?_eq_some_iff.mp e).1
  exact ⟨_, List.getElem?_eq_getElem h, R.sl i s _ e (List.getElem?_eq_getElem h)⟩
theorem Rep.dl (R : Rep Tb F O σ H env) {v : V} {w : W} (h : RW F O H v w) {x : PyData} (e : lk env w = some x) : Dl (vw F O H) H v x := by
  cases w with
  | d y =>
    cases e
    exact .inl h
  | own i =>
    obtain ⟨a, rfl, ha⟩ := h
    cases q : env[i]? with
    | none => simp [lk, q] at e
    | some s =>
      cases s with
      | o xs =>
        simp only [lk, q, Option.some.injEq] at e
        subst e
        obtain ⟨s, _, a', vs, _, ha', hv, hd⟩ := R.slot q
        rw [ha] at ha'
        cases ha'
        exact .inr ⟨a, vs, xs, rfl, rfl, hv, hd⟩
      | u => simp [lk, q] at e
      | d y => simp [lk, q] at e
      | c a M => simp [lk, q] at e
      | r v => simp [lk, q] at e
      | x b ts => simp [lk, q] at e
theorem Rep.there (R : Rep Tb F O σ H env) {i : Nat} {a : Addr} (e : O i = some a) : ∃ xs, H a = some (.lst xs) := by
  rcases R.ow i a e with ⟨xs, q⟩ | ⟨M, q⟩
  · obtain ⟨_, _, b, vs, _, hb, h, _⟩ := R.slot q
    rw [e] at hb
    cases hb
    exact ⟨vs, h⟩
  · obtain ⟨_, _, _, hb, h⟩ := R.slot q
    exact h.some
theorem Rep.fresh (R : Rep Tb F O σ H env) {p : Addr} (hp : H p = none) : ¬ hid F O p := fun z => by
  rcases z with z | ⟨i, z⟩
  · exact R.hdn p z (R.ex.there p hp)
  · obtain ⟨xs, e⟩ := R.there z
    rw [hp] at e
    cases e
theorem vw_upd {p : Addr} {o : HO} (n : ¬ hid F O p) : vw F O (upd H p o) = upd (vw F O H) p o := by
  funext b
  by_cases e : b = p
  · subst e
    rw [upd_same]
    exact hide_of n upd_same
  · rw [upd_ne e]
    unfold vw hide
    rw [upd_ne e]
/-- a step that leaves the slots' own lists alone -/
theorem Rep.step (R : Rep Tb F O σ H env) (ex : Ex F.C F.H0 H') (tb : ∀ T ∈ Tb, GxR.TabG H' T) (g : Gr F O H H') (own : ∀ i a, O i = some a → H' a = H a) : Rep Tb F O σ H' env := by
  refine ⟨ex, tb, R.len, fun i s v e1 e2 => ?_, R.hdn, R.own, R.ow, R.onh, R.inj, fun p hp => Dv.le g.le _ _ (R.ps p hp)⟩
  have q := R.sl i s v e1 e2
  cases s with
  | u => trivial
  | d x =>
    obtain ⟨v, rfl, h⟩ := q
    exact ⟨v, rfl, Dv.le g.le _ _ h⟩
  | o xs =>
    obtain ⟨a, vs, rfl, h1, h2, h3⟩ := q
    exact ⟨a, vs, rfl, h1, by rw [own i a h1]; exact h2, DvA.le g.le _ _ h3⟩
  | c a M =>
    obtain ⟨rfl, h1, h2⟩ := q
    obtain ⟨x, y, n, h3, r⟩ := h2
    exact ⟨rfl, h1, x, y, n, by rw [own i a h1]; exact h3, r⟩
  | r v => exact q
  | x b ts => exact ⟨q.1, fun p hp => ⟨(q.2 p hp).1, g _ _ (q.2 p hp).1 (q.2 p hp).2.1 (q.2 p hp).2.2, (q.2 p hp).2.2⟩⟩
theorem Rep.grow (R : Rep Tb F O σ H env) (x : Ex [] H H') : Rep Tb F O σ H' env ∧ Gr F O H H' := by
  have g : Gr F O H H' := fun a o _ e t => x.keep a o nm e t
  refine ⟨⟨R.ex.trans x.up, fun T t => x.tab T (R.tb T t), R.len, fun i s v e1 e2 => ?_, R.hdn, R.own, R.ow, R.onh, R.inj, fun p hp => Dv.le g.le _ _ (R.ps p hp)⟩, g⟩
  have q := R.sl i s v e1 e2
  cases s with
  | u => trivial
  | d y =>
    obtain ⟨v, rfl, h⟩ := q
    exact ⟨v, rfl, Dv.le g.le _ _ h⟩
  | o xs =>
    obtain ⟨a, vs, rfl, h1, h2, h3⟩ := q
    exact ⟨a, vs, rfl, h1, x.lst h2, DvA.le g.le _ _ h3⟩
  | c a M =>
    obtain ⟨rfl, h1, h2⟩ := q
    exact ⟨rfl, h1, h2.ex x nm⟩
  | r v => exact q
  | x b ts => exact ⟨q.1, fun p hp => ⟨(q.2 p hp).1, g _ _ (q.2 p hp).1 (q.2 p hp).2.1 (q.2 p hp).2.2, (q.2 p hp).2.2⟩⟩
/-- the result of a step: the heap stays, or one thing is new -/
def Res (G H : Hp) (v : V) (z : PyData) (H' : Hp) : Prop := (H' = H ∧ Dv G v z) ∨ ∃ p o, H p = none ∧ H' = upd H p o ∧ Dv (upd G p o) v z
theorem Rep.res (R : Rep Tb F O σ H env) {v : V} {z : PyData} (h : Res (vw F O H) H v z H') : Rep Tb F O σ H' env ∧ RW F O H' v (.d z) ∧ Gr F O H H' := by
  rcases h with ⟨rfl, h⟩ | ⟨p, o, hp, rfl, h⟩
  · exact ⟨R, h, Gr.rfl⟩
  · have q := R.grow (Ex.new (C := []) (o := o) hp)
    refine ⟨q.1, ?_, q.2⟩
    show Dv (vw F O (upd H p o)) v z
    rw [vw_upd (R.fresh hp)]
    exact h
theorem Le.new {G : Hp} {p : Addr} {o : HO} (hp : G p = none) : Le G (upd G p o) := fun a u e _ => by
  rw [upd_ne (ne_of_none e hp)]
  exact e
theorem res_lst {G : Hp} (l : ∀ a, H a = none → G a = none) {p : Addr} {vs : List V} {xs : List PyData} (hp : H p = none) (h : DvA G vs xs) : Res G H (.ref p) (.list xs) (upd H p (.lst vs)) :=
  .inr ⟨p, _, hp, rfl, .lst upd_same (DvA.le (Le.new (l p hp)) _ _ h)⟩
theorem res_tup {G : Hp} (l : ∀ a, H a = none → G a = none) {p : Addr} {vs : List V} {xs : List PyData} (hp : H p = none) (h : DvA G vs xs) : Res G H (.ref p) (.tuple xs) (upd H p (.tup vs)) :=
  .inr ⟨p, _, hp, rfl, .tup upd_same (DvA.le (Le.new (l p hp)) _ _ h)⟩
theorem vw_none {a : Addr} (h : H a = none) : vw F O H a = none := by
  unfold vw hide
  split
  · rfl
  · exact h
end
/-! ### the readings -/
abbrev VF := En → (W → En → Prop) → Prop
abbrev VT := En → (Bool → En → Prop) → Prop
abbrev VA := En → (List W → En → Prop) → Prop
def cE (Tb : List Addr) (f : VF) : TE := fun σ H Q => ∃ F O env k, Rep Tb F O σ H env ∧ f env k ∧ ∀ w env' v H', Rep Tb F O σ H' env' → RW F O H' v w → Gr F O H H' → k w env' → Q v H'
def cT (Tb : List Addr) (f : VT) : TT := fun σ H Q => ∃ F O env k, Rep Tb F O σ H env ∧ f env k ∧ ∀ b env' H', Rep Tb F O σ H' env' → Gr F O H H' → k b env' → Q b H'
inductive RWs (F : Fr) (O : Ow) (H : Hp) : List V → List W → Prop
  | nil : RWs F O H [] []
  | cons {v : V} {vs : List V} {w : W} {ws : List W} : RW F O H v w → RWs F O H vs ws → RWs F O H (v :: vs) (w :: ws)
def cA (Tb : List Addr) (f : VA) : TA := fun σ H Q => ∃ F O env k, Rep Tb F O σ H env ∧ f env k ∧ ∀ ws env' vs H', Rep Tb F O σ H' env' → RWs F O H' vs ws → Gr F O H H' → k ws env' → Q vs H'
/-- what is wanted behind a statement -/
structure VEnds where
  nx : En → Prop
  rt : PyData → En → Prop
  bk : En → Prop := fun _ => False
  ct : En → Prop := fun _ => False
  /-- an own list, told as a new one -/
  ro : PyData → Prop := fun _ => False
abbrev VG := VEnds → En → Prop
structure Cmp (Tb : List Addr) (F : Fr) (E : VEnds) (D : Ends) : Prop where
  nx : ∀ O σ H env, Rep Tb F O σ H env → E.nx env → D.nx σ H
  rt : ∀ O σ H env v x, Rep Tb F O σ H env → Dv (vw F O H) v x → E.rt x env → D.rt v H
  bk : ∀ O σ H env, Rep Tb F O σ H env → E.bk env → D.bk σ H
  ct : ∀ O σ H env, Rep Tb F O σ H env → E.ct env → D.ct σ H
  ro : ∀ O σ H env i a vs xs, Rep Tb F O σ H env → O i = some a → H a = some (.lst vs) → DvA (vw F O H) vs xs → E.ro (.list xs) → D.rt (.ref a) H
def cS (Tb : List Addr) (g : VG) : TS := fun D σ H => ∃ F O env E, Rep Tb F O σ H env ∧ g E env ∧ Cmp Tb F E D
abbrev VE (X : Cx) (Tb : List Addr) (e : Expr) (f : VF) : Prop := PE X e (cE Tb f)
abbrev VTt (X : Cx) (Tb : List Addr) (e : Expr) (f : VT) : Prop := PT X e (cT Tb f)
abbrev VAs (X : Cx) (Tb : List Addr) (es : List Expr) (f : VA) : Prop := PA X es (cA Tb f)
abbrev VS (X : Cx) (Tb : List Addr) (st : Stmt) (g : VG) : Prop := PS X st (cS Tb g)
abbrev VSs (X : Cx) (Tb : List Addr) (st : List Stmt) (g : VG) : Prop := PSs X st (cS Tb g)
section
variable {X : Cx}
theorem PE.imp {e : Expr} {t u : TE} (h : PE X e t) (i : ∀ σ H Q, u σ H Q → t σ H Q) : PE X e u := ⟨fun pins s σ H Q I q => h.run pins s σ H Q I (i _ _ _ q)⟩
theorem PT.imp {e : Expr} {t u : TT} (h : PT X e t) (i : ∀ σ H Q, u σ H Q → t σ H Q) : PT X e u := ⟨fun pins s σ H Q I q => h.run pins s σ H Q I (i _ _ _ q)⟩
theorem PA.imp {e : List Expr} {t u : TA} (h : PA X e t) (i : ∀ σ H Q, u σ H Q → t σ H Q) : PA X e u := ⟨fun pos pins s σ H Q I q => h.run pos pins s σ H Q I (i _ _ _ q)⟩
theorem PS.imp {e : Stmt} {t u : TS} (h : PS X e t) (i : ∀ D σ H, u D σ H → t D σ H) : PS X e u := ⟨fun pins s σ H Q I q => h.run pins s σ H Q I (i _ _ _ q)⟩
theorem PSs.imp {e : List Stmt} {t u : TS} (h : PSs X e t) (i : ∀ D σ H, u D σ H → t D σ H) : PSs X e u := ⟨fun pins s σ H Q I q => h.run pins s σ H Q I (i _ _ _ q)⟩
end
end Sp
end

section
set_option maxHeartbeats 1000000
/-! Expressions by their data. -/
namespace Sp
open PySem PySem.Spec PyProof.Rows L2
/-- what is seen of a heap -/
structure View (G H : Hp) : Prop where
  le : ∀ a o, G a = some o → H a = some o
theorem View.none {G H : Hp} (v : View G H) {a : Addr} (h : H a = none) : G a = none := by
  cases e : G a with
  | none => rfl
  | some o => rw [v.le a o e] at h; cases h
theorem View.toLe {G H : Hp} (v : View G H) : Le G H := fun a o e _ => v.le a o e
theorem view_vw {F : Fr} {O : Ow} {H : Hp} : View (vw F O H) H := ⟨fun _ _ e => (hide_some e).2⟩
abbrev DOp := PyData → PyData → (PyData → Prop) → Prop
/-- what an operation does with data -/
def OpV (X : Cx) (f : Value → Value → Sem Value) (op : DOp) : Prop :=
  ∃ r, OpR X f r ∧ ∀ (G H : Hp) (v1 v2 : V) (x y : PyData) (k : PyData → Prop) (Q : VK), View G H → Dl G H v1 x → Dl G H v2 y → op x y k → (∀ z v H', k z → Res G H v z H' → Q v H') → r v1 v2 H Q
def UnV (X : Cx) (f : Value → Sem Value) (op : PyData → (PyData → Prop) → Prop) : Prop :=
  ∃ r, UnR X f r ∧ ∀ (G H : Hp) (v : V) (x : PyData) (k : PyData → Prop) (Q : VK), View G H → Dl G H v x → op x k → (∀ z v H', k z → Res G H v z H' → Q v H') → r v H Q
inductive DlA (G H : Hp) : List V → List PyData → Prop
  | nil : DlA G H [] []
  | cons {v : V} {vs : List V} {d : PyData} {ds : List PyData} : Dl G H v d → DlA G H vs ds → DlA G H (v :: vs) (d :: ds)
abbrev DFn := List PyData → (PyData → Prop) → Prop
def CallV (X : Cx) (f : Value) (op : DFn) : Prop :=
  ∃ r, CallR X f r ∧ ∀ (G H : Hp) (vs : List V) (xs : List PyData) (k : PyData → Prop) (Q : VK), View G H → DlA G H vs xs → op xs k → (∀ z v H', k z → Res G H v z H' → Q v H') → r vs H Q
def vTwo (op : DOp) : Option PyData → Option PyData → (PyData → Prop) → Prop
  | some x, some y, k => op x y k
  | _, _, _ => False
def vOne (op : PyData → (PyData → Prop) → Prop) : Option PyData → (PyData → Prop) → Prop
  | some x, k => op x k
  | _, _ => False
def vVar (i : Nat) : VF := fun env k => match env[i]? with
  | some (.d x) => k (.d x) env
  | some (.o _) => k (.own i) env
  | some (.c _ _) => k (.own i) env
  | _ => False
def vC (d : PyData) : VF := fun env k => k (.d d) env
def vOp (op : DOp) (fa fb : VF) : VF := fun env k => fa env fun w1 e1 => fb e1 fun w2 e2 => vTwo op (lk e2 w1) (lk e2 w2) fun z => k (.d z) e2
def vUn (op : PyData → (PyData → Prop) → Prop) (fa : VF) : VF := fun env k => fa env fun w1 e1 => vOne op (lk e1 w1) fun z => k (.d z) e1
def wB (k : Bool → En → Prop) : W → En → Prop
  | .d (.bool b), e => k b e
  | _, _ => False
def vTOp (op : DOp) (fa fb : VF) : VT := fun env k => vOp op fa fb env (wB k)
def dTrue : PyData → (Bool → Prop) → Prop
  | .none, k => k false
  | .bool b, k => k b
  | .int i, k => k (i != 0)
  | .list xs, k => k (!xs.isEmpty)
  | .tuple xs, k => k (!xs.isEmpty)
  | .dict xs, k => k (!xs.isEmpty)
  | .str _, _ => False
def vTrue (fa : VF) : VT := fun env k => fa env fun w1 e1 => match lk e1 w1 with
  | some x => dTrue x fun b => k b e1
  | none => False
section
variable {X : Cx} {Tb : List Addr} {a b c e : Expr} {fa fb fc fe : VF} {pos : Pos}
theorem ve_var {i : Nat} (h : PE X e (tVar i)) : VE X Tb e (vVar i) := by
  refine PE.imp h fun σ H Q ⟨F, O, env, k, R, h, q⟩ => ?_
  unfold vVar at h
  split at h
  · rename_i x z
    obtain ⟨v, hv, v', rfl, hd⟩ := R.slot z
    exact ⟨v', hv, q (.d x) env v' H R hd Gr.rfl h⟩
  · rename_i z
    obtain ⟨v, hv, ad, _, rfl, ho, _⟩ := R.slot z
    exact ⟨_, hv, q (.own i) env _ H R ⟨ad, rfl, ho⟩ Gr.rfl h⟩
  · rename_i z
    obtain ⟨v, hv, rfl, ho, _⟩ := R.slot z
    exact ⟨_, hv, q (.own i) env _ H R ⟨_, rfl, ho⟩ Gr.rfl h⟩
  · exact h.elim
theorem ve_c {v : V} {d : PyData} (h : PE X e (tC v)) (hd : ∀ H, Dv H v d) : VE X Tb e (vC d) := by
  refine PE.imp h fun σ H Q ⟨F, O, env, k, R, h, q⟩ => ?_
  exact q (.d d) env v H R (hd _) Gr.rfl h
theorem ve_int {i j} : VE X Tb (.Constant (.int i) j pos) (vC (.int i)) := ve_c pe_int fun _ => .int i
theorem ve_bl {i j} : VE X Tb (.Constant (.bool i) j pos) (vC (.bool i)) := ve_c pe_bl fun _ => .bl i
theorem ve_non {j} : VE X Tb (.Constant .none j pos) (vC .none) := ve_c pe_non fun _ => .non
theorem ve_str {i j} : VE X Tb (.Constant (.str i) j pos) (vC (.str i)) := ve_c pe_str fun _ => .str i
theorem two_of {op : DOp} {x y : Option PyData} {k : PyData → Prop} (h : vTwo op x y k) : ∃ a b, x = some a ∧ y = some b ∧ op a b k := by
  unfold vTwo at h
  split at h
  · exact ⟨_, _, rfl, rfl, h⟩
  · exact h.elim
/-- two operands told, then an operation -/
theorem op_core {f : Value → Value → Sem Value} {op : DOp} {r : R2} (hv : ∀ (G H : Hp) (v1 v2 : V) (x y : PyData) (k : PyData → Prop) (Q : VK), View G H → Dl G H v1 x → Dl G H v2 y → op x y k → (∀ z v H', k z → Res G H v z H' → Q v H') → r v1 v2 H Q)
    {σ : L2.St} {H : Hp} {Q : VK} (h : cE Tb (vOp op fa fb) σ H Q) : tOp r (cE Tb fa) (cE Tb fb) σ H Q := by
  obtain ⟨F, O, env, k, R, h, q⟩ := h
  refine ⟨F, O, env, _, R, h, fun w1 e1 v1 H1 R1 rw1 g1 h1 => ⟨F, O, e1, _, R1, h1, fun w2 e2 v2 H2 R2 rw2 g2 h2 => ?_⟩⟩
  obtain ⟨x, y, ex, ey, h2⟩ := two_of h2
  refine hv (vw F O H2) H2 v1 v2 x y _ Q view_vw (R2.dl (rw1.gr g2) ex) (R2.dl rw2 ey) h2 fun z v H' kz res => ?_
  obtain ⟨R3, rw3, g3⟩ := R2.res res
  exact q (.d z) e2 v H' R3 rw3 (g1.trans (g2.trans g3)) kz
theorem ve_op {op : Operator} {vop : DOp} (ho : OpV X (binaryOp op) vop) (ha : VE X Tb a fa) (hb : VE X Tb b fb) : VE X Tb (.BinOp a op b pos) (vOp vop fa fb) := by
  obtain ⟨r, hr, hv⟩ := ho
  exact PE.imp (pe_op hr ha hb) fun σ H Q h => op_core (f := binaryOp op) hv h
theorem ve_cmp {op : CmpOp} {vop : DOp} (ho : OpV X (compareOp op) vop) (ha : VE X Tb a fa) (hb : VE X Tb b fb) (hm : behindInMarks op b = false) : VE X Tb (.Compare a [op] [b] pos) (vOp vop fa fb) := by
  obtain ⟨r, hr, hv⟩ := ho
  exact PE.imp (pe_cmpR hr ha hb hm) fun σ H Q h => op_core (f := compareOp op) hv h
theorem vt_cmp {op : CmpOp} {vop : DOp} (ho : OpV X (compareOp op) vop) (ha : VE X Tb a fa) (hb : VE X Tb b fb) (hm : behindInMarks op b = false) : VTt X Tb (.Compare a [op] [b] pos) (vTOp vop fa fb) := by
  obtain ⟨r, hr, hv⟩ := ho
  refine PT.imp (pt_cmpR hr ha hb hm) fun σ H Q ⟨F, O, env, k, R, h, q⟩ => ?_
  refine op_core (f := compareOp op) (fa := fa) (fb := fb) (Tb := Tb) hv ⟨F, O, env, _, R, h, fun w env' v H' R' rw g h => ?_⟩
  cases w with
  | own i => exact h.elim
  | d x =>
    cases x with
    | bool b => cases rw; exact ⟨b, rfl, q b env' H' R' g h⟩
    | _ => exact h.elim
theorem ve_un {op : UnaryOp} {vop} (ho : UnV X (unaryOp op) vop) (ha : VE X Tb a fa) : VE X Tb (.UnaryOp op a pos) (vUn vop fa) := by
  obtain ⟨r, hr, hv⟩ := ho
  refine PE.imp (pe_un hr ha) fun σ H Q ⟨F, O, env, k, R, h, q⟩ => ⟨F, O, env, _, R, h, fun w1 e1 v1 H1 R1 rw1 g1 h1 => ?_⟩
  unfold vOne at h1
  split at h1
  · rename_i x ex
    refine hv (vw F O H1) H1 v1 x _ Q view_vw (R1.dl rw1 ex) h1 fun z v H' kz res => ?_
    obtain ⟨R3, rw3, g3⟩ := R1.res res
    exact q (.d z) e1 v H' R3 rw3 (g1.trans g3) kz
  · exact h1.elim
/-! ### truth, tests -/
theorem vt_val (ha : VE X Tb a fa) (he : ∀ whole, isTrue a X.env whole = (do let v ← whole; standAt a.pos; holding [v] (truthy v)) := by intro _; rfl) : VTt X Tb a (vTrue fa) := by
  refine PT.imp (pt_truth ha he) fun σ H Q ⟨F, O, env, k, R, h, q⟩ => ⟨F, O, env, _, R, h, fun w1 e1 v1 H1 R1 rw1 g1 h1 => ?_⟩
  split at h1
  · rename_i x ex
    have d := Dl.dv view_vw.toLe (R1.dl rw1 ex)
    have fin : ∀ b, k b e1 → Q b H1 := fun b hb => q b e1 H1 R1 g1 hb
    cases d with
    | non => exact ⟨_, rfl, fin _ h1⟩
    | bl b => exact ⟨_, rfl, fin _ h1⟩
    | int i => exact ⟨_, rfl, fin _ h1⟩
    | str z => exact h1.elim
    | @lst p vs ds hp ha =>
      refine ⟨_, .inl ⟨vs, sq hp, rfl⟩, ?_⟩
      have e : (!vs.isEmpty) = !ds.isEmpty := by cases ha <;> rfl
      rw [e]
      exact fin _ h1
    | @tup p vs ds hp ha =>
      refine ⟨_, .inr (.inl ⟨vs, sqt hp, rfl⟩), ?_⟩
      have e : (!vs.isEmpty) = !ds.isEmpty := by cases ha <;> rfl
      rw [e]
      exact fin _ h1
    | @dic p vs ds hp ha =>
      refine ⟨_, .inr (.inr ⟨vs, hp, rfl⟩), ?_⟩
      have e : (!vs.isEmpty) = !ds.isEmpty := by cases ha <;> rfl
      rw [e]
      exact fin _ h1
  · exact h1.elim
def vNot (t : VT) : VT := fun env k => t env fun b e => k (!b) e
def vAnd (t u : VT) : VT := fun env k => t env fun b e => if b = true then u e k else k false e
def vOr (t u : VT) : VT := fun env k => t env fun b e => if b = true then k true e else u e k
variable {ta tb : VT} {rest : List Expr}
theorem vt_not (ha : VTt X Tb a ta) : VTt X Tb (.UnaryOp .Not a pos) (vNot ta) :=
  PT.imp (pt_not ha) fun σ H Q ⟨F, O, env, k, R, h, q⟩ => ⟨F, O, env, _, R, h, fun b e1 H1 R1 g1 h1 => q (!b) e1 H1 R1 g1 h1⟩
abbrev VW (X : Cx) (Tb : List Addr) (e : Expr) (f : VT) : Prop := PW X e (cT Tb f)
theorem PW.imp {t u : TT} (h : PW X e t) (i : ∀ σ H Q, u σ H Q → t σ H Q) : PW X e u := ⟨fun wh pins s σ H Q I q => h.run wh pins s σ H Q I (i _ _ _ q)⟩
theorem vw_and1 (ha : VTt X Tb a ta) : VW X Tb (.BoolOp .And [a] pos) ta := pw_and1 ha
theorem vw_or1 (ha : VTt X Tb a ta) : VW X Tb (.BoolOp .Or [a] pos) ta := pw_or1 ha
theorem vw_and (ha : VTt X Tb a ta) (hb : VW X Tb (.BoolOp .And (b :: rest) pos) tb) : VW X Tb (.BoolOp .And (a :: b :: rest) pos) (vAnd ta tb) :=
  PW.imp (pw_and ha hb) fun σ H Q ⟨F, O, env, k, R, h, q⟩ => ⟨F, O, env, _, R, h, fun c e1 H1 R1 g1 h1 => by
    cases c with
    | true =>
      rw [if_pos rfl] at h1 ⊢
      exact ⟨F, O, e1, _, R1, h1, fun c e2 H2 R2 g2 h2 => q c e2 H2 R2 (g1.trans g2) h2⟩
    | false =>
      rw [if_neg Bool.false_ne_true] at h1 ⊢
      exact q false e1 H1 R1 g1 h1⟩
theorem vw_or (ha : VTt X Tb a ta) (hb : VW X Tb (.BoolOp .Or (b :: rest) pos) tb) : VW X Tb (.BoolOp .Or (a :: b :: rest) pos) (vOr ta tb) :=
  PW.imp (pw_or ha hb) fun σ H Q ⟨F, O, env, k, R, h, q⟩ => ⟨F, O, env, _, R, h, fun c e1 H1 R1 g1 h1 => by
    cases c with
    | true =>
      rw [if_pos rfl] at h1 ⊢
      exact q true e1 H1 R1 g1 h1
    | false =>
      rw [if_neg Bool.false_ne_true] at h1 ⊢
      exact ⟨F, O, e1, _, R1, h1, fun c e2 H2 R2 g2 h2 => q c e2 H2 R2 (g1.trans g2) h2⟩⟩
/-- a bool as a value -/
def vB (k : Bool → En → Prop) : W → En → Prop := fun w e => match lk e w with
  | some (.bool b) => k b e
  | _ => False
theorem vB_of {F : Fr} {O : Ow} {σ : L2.St} {H : Hp} {env : En} {v : V} {w : W} {k : Bool → En → Prop} (R : Rep Tb F O σ H env) (r : RW F O H v w) (h : vB k w env) : ∃ b, v = .bl b ∧ k b env := by
  unfold vB at h
  split at h
  · rename_i b e
    have d := Dl.dv view_vw.toLe (R.dl r e)
    cases d
    exact ⟨b, rfl, h⟩
  · exact h.elim
def vAndV (fa fb : VF) : VF := fun env k => fa env (vB fun b e => if b = true then fb e k else k (.d (.bool false)) e)
def vOrV (fa fb : VF) : VF := fun env k => fa env (vB fun b e => if b = true then k (.d (.bool true)) e else fb e k)
def vNotV (fa : VF) : VF := fun env k => fa env (vB fun b e => k (.d (.bool (!b))) e)
theorem ve_one {op} (h : VE X Tb a fa) : VE X Tb (.BoolOp op [a] pos) fa := pe_one h
theorem ve_and (ha : VE X Tb a fa) (hb : VE X Tb (.BoolOp .And (b :: rest) pos) fb) : VE X Tb (.BoolOp .And (a :: b :: rest) pos) (vAndV fa fb) :=
  PE.imp (pe_and ha hb) fun σ H Q ⟨F, O, env, k, R, h, q⟩ => ⟨F, O, env, _, R, h, fun w e1 v H1 R1 r1 g1 h1 => by
    obtain ⟨c, rfl, h1⟩ := vB_of R1 r1 h1
    refine ⟨c, rfl, ?_⟩
    cases c with
    | true =>
      rw [if_pos rfl] at h1 ⊢
      exact ⟨F, O, e1, _, R1, h1, fun w e2 v H2 R2 r2 g2 h2 => q w e2 v H2 R2 r2 (g1.trans g2) h2⟩
    | false =>
      rw [if_neg Bool.false_ne_true] at h1 ⊢
      exact q (.d (.bool false)) e1 _ H1 R1 (Dv.bl false) g1 h1⟩
theorem ve_or (ha : VE X Tb a fa) (hb : VE X Tb (.BoolOp .Or (b :: rest) pos) fb) : VE X Tb (.BoolOp .Or (a :: b :: rest) pos) (vOrV fa fb) :=
  PE.imp (pe_or ha hb) fun σ H Q ⟨F, O, env, k, R, h, q⟩ => ⟨F, O, env, _, R, h, fun w e1 v H1 R1 r1 g1 h1 => by
    obtain ⟨c, rfl, h1⟩ := vB_of R1 r1 h1
    refine ⟨c, rfl, ?_⟩
    cases c with
    | true =>
      rw [if_pos rfl] at h1 ⊢
      exact q (.d (.bool true)) e1 _ H1 R1 (Dv.bl true) g1 h1
    | false =>
      rw [if_neg Bool.false_ne_true] at h1 ⊢
      exact ⟨F, O, e1, _, R1, h1, fun w e2 v H2 R2 r2 g2 h2 => q w e2 v H2 R2 r2 (g1.trans g2) h2⟩⟩
theorem ve_not (ha : VE X Tb a fa) : VE X Tb (.UnaryOp .Not a pos) (vNotV fa) :=
  PE.imp (pe_not ha) fun σ H Q ⟨F, O, env, k, R, h, q⟩ => ⟨F, O, env, _, R, h, fun w e1 v H1 R1 r1 g1 h1 => by
    obtain ⟨c, rfl, h1⟩ := vB_of R1 r1 h1
    exact ⟨c, rfl, q (.d (.bool (!c))) e1 _ H1 R1 (Dv.bl (!c)) g1 h1⟩⟩
def vIf (t : VT) (fa fb : VF) : VF := fun env k => t env fun b e => if b = true then fa e k else fb e k
theorem ve_ifExp (hc : VTt X Tb c ta) (ha : VE X Tb a fa) (hb : VE X Tb b fb) : VE X Tb (.IfExp c a b pos) (vIf ta fa fb) :=
  PE.imp (pe_ifExp hc ha hb) fun σ H Q ⟨F, O, env, k, R, h, q⟩ => ⟨F, O, env, _, R, h, fun c e1 H1 R1 g1 h1 => by
    cases c with
    | true =>
      rw [if_pos rfl] at h1 ⊢
      exact ⟨F, O, e1, _, R1, h1, fun w e2 v H2 R2 r2 g2 h2 => q w e2 v H2 R2 r2 (g1.trans g2) h2⟩
    | false =>
      rw [if_neg Bool.false_ne_true] at h1 ⊢
      exact ⟨F, O, e1, _, R1, h1, fun w e2 v H2 R2 r2 g2 h2 => q w e2 v H2 R2 r2 (g1.trans g2) h2⟩⟩
/-! ### argument lists, displays -/
def vNil : VA := fun env k => k [] env
def vCons (fa : VF) (fr : VA) : VA := fun env k => fa env fun w e1 => fr e1 fun ws e2 => k (w :: ws) e2
variable {es : List Expr} {fs : VA}
theorem va_nil : VAs X Tb [] vNil := PA.imp pa_nil fun σ H Q ⟨F, O, env, k, R, h, q⟩ => q [] env [] H R .nil Gr.rfl h
theorem va_cons (ha : VE X Tb e fe) (hr : VAs X Tb es fs) (hs : starEach (e :: es) X.env = (false, eval e X.env) :: starEach es X.env := by rfl) : VAs X Tb (e :: es) (vCons fe fs) :=
  PA.imp (pa_cons ha hr hs) fun σ H Q ⟨F, O, env, k, R, h, q⟩ => ⟨F, O, env, _, R, h, fun w e1 v H1 R1 r1 g1 h1 => ⟨F, O, e1, _, R1, h1, fun ws e2 vs H2 R2 r2 g2 h2 => q (w :: ws) e2 (v :: vs) H2 R2 (.cons (r1.gr g2) r2) (g1.trans g2) h2⟩⟩
/-- all are data -/
def dsOf : List W → Option (List PyData)
  | [] => some []
  | .d x :: ws => (dsOf ws).map (x :: ·)
  | .own _ :: _ => none
theorem dsOf_dv {F : Fr} {O : Ow} {H : Hp} : ∀ {vs : List V} {ws : List W} {ds : List PyData}, RWs F O H vs ws → dsOf ws = some ds → DvA (vw F O H) vs ds
  | _, _, _, .nil, h => by
    cases (Option.some.inj h)
    exact .nil
  | _, _, ds, .cons (w := w) (ws := ws) a b, h => by
    cases w with
    | own i => simp [dsOf] at h
    | d x =>
      cases e : dsOf ws with
      | none => simp [dsOf, e] at h
      | some es =>
        simp only [dsOf, e, Option.map_some, Option.some.injEq] at h
        subst h
        exact .cons a (dsOf_dv b e)
def vDs (k : List PyData → Prop) : Option (List PyData) → Prop
  | some ds => k ds
  | none => False
def vTup (fs : VA) : VF := fun env k => fs env fun ws e => vDs (fun ds => ds.length ≤ sizeLine ∧ k (.d (.tuple ds)) e) (dsOf ws)
def vLst (fs : VA) : VF := fun env k => fs env fun ws e => vDs (fun ds => ds.length ≤ sizeLine ∧ k (.d (.list ds)) e) (dsOf ws)
theorem vDs_of {k : List PyData → Prop} {x : Option (List PyData)} (h : vDs k x) : ∃ ds, x = some ds ∧ k ds := by
  cases x with
  | none => exact h.elim
  | some ds => exact ⟨ds, rfl, h⟩
theorem ve_tup {x1} (ha : VAs X Tb es fs) : VE X Tb (.Tuple es x1 pos) (vTup fs) :=
  PE.imp (pe_tup ha) fun σ H Q ⟨F, O, env, k, R, h, q⟩ => ⟨F, O, env, _, R, h, fun ws e1 vs H1 R1 r1 g1 h1 => by
    obtain ⟨ds, e, hz, h1⟩ := vDs_of h1
    have d := dsOf_dv r1 e
    refine ⟨by rw [d.len]; exact hz, fun p hp => ?_⟩
    obtain ⟨R2, r2, g2⟩ := R1.res (res_tup (fun a => vw_none) hp d)
    exact q _ e1 _ _ R2 r2 (g1.trans g2) h1⟩
theorem ve_lst (ha : VAs X Tb es fs) : VE X Tb (.List es pos) (vLst fs) :=
  PE.imp (pe_lst ha) fun σ H Q ⟨F, O, env, k, R, h, q⟩ => ⟨F, O, env, _, R, h, fun ws e1 vs H1 R1 r1 g1 h1 => by
    obtain ⟨ds, e, hz, h1⟩ := vDs_of h1
    have d := dsOf_dv r1 e
    refine ⟨by rw [d.len]; exact hz, fun p hp => ?_⟩
    obtain ⟨R2, r2, g2⟩ := R1.res (res_lst (fun a => vw_none) hp d)
    exact q _ e1 _ _ R2 r2 (g1.trans g2) h1⟩
end
end Sp
end

section
set_option maxHeartbeats 1000000
/-! What operations and built-in functions do with data. -/
namespace Sp
open PySem PySem.Spec PyProof.Rows L2
theorem Dl.int {G H : Hp} {v : V} {i : Int} (h : Dl G H v (.int i)) : v = .int i := by
  rcases h with h | ⟨_, _, _, _, e, _⟩
  · cases h; rfl
  · cases e
theorem Dl.bool {G H : Hp} {v : V} {i : Bool} (h : Dl G H v (.bool i)) : v = .bl i := by
  rcases h with h | ⟨_, _, _, _, e, _⟩
  · cases h; rfl
  · cases e
theorem Dl.str {G H : Hp} {v : V} {i : Str} (h : Dl G H v (.str i)) : v = .str i := by
  rcases h with h | ⟨_, _, _, _, e, _⟩
  · cases h; rfl
  · cases e
theorem Dl.none {G H : Hp} {v : V} (h : Dl G H v .none) : v = .non := by
  rcases h with h | ⟨_, _, _, _, e, _⟩
  · cases h; rfl
  · cases e
theorem Dl.list {G H : Hp} (w : View G H) {v : V} {xs : List PyData} (h : Dl G H v (.list xs)) : ∃ a vs, v = .ref a ∧ H a = some (.lst vs) ∧ DvA G vs xs := by
  rcases h with h | ⟨a, vs, ys, rfl, e, h1, h2⟩
  · cases h with
    | lst e a => exact ⟨_, _, rfl, w.le _ _ e, a⟩
  · cases e
    exact ⟨a, vs, rfl, h1, h2⟩
theorem Dl.tuple {G H : Hp} (w : View G H) {v : V} {xs : List PyData} (h : Dl G H v (.tuple xs)) : ∃ a vs, v = .ref a ∧ H a = some (.tup vs) ∧ DvA G vs xs := by
  rcases h with h | ⟨a, vs, ys, rfl, e, h1, h2⟩
  · cases h with
    | tup e a => exact ⟨_, _, rfl, w.le _ _ e, a⟩
  · cases e
/-- a datum without an address -/
theorem resF {G H : Hp} {v : V} {z : PyData} (h : ∀ G, Dv G v z) : Res G H v z H := .inl ⟨rfl, h G⟩
section
variable {X : Cx}
/-! ### two ints -/
def dI (C : Int → Int → Prop) (g : Int → Int → PyData) : DOp
  | .int i, .int j, k => C i j ∧ k (g i j)
  | _, _, _ => False
theorem dI_of {C : Int → Int → Prop} {g : Int → Int → PyData} {x y : PyData} {k : PyData → Prop} (h : dI C g x y k) : ∃ i j, x = .int i ∧ y = .int j ∧ C i j ∧ k (g i j) := by
  unfold dI at h
  split at h
  · exact ⟨_, _, rfl, rfl, h⟩
  · exact h.elim
theorem opv_rI {f : Value → Value → Sem Value} {C : Int → Int → Prop} {g : Int → Int → V} {g' : Int → Int → PyData} (h : OpR X f (rI C g)) (hg : ∀ i j H, Dv H (g i j) (g' i j)) : OpV X f (dI C g') :=
  ⟨_, h, fun G H v1 v2 x y k Q w d1 d2 o q => by
    obtain ⟨i, j, rfl, rfl, c, o⟩ := dI_of o
    exact ⟨i, j, d1.int, d2.int, c, q _ _ _ o (resF (hg i j))⟩⟩
theorem opv_rI0 {f : Value → Value → Sem Value} {g : Int → Int → V} {g' : Int → Int → PyData} (h : OpR X f (rI0 g)) (hg : ∀ i j H, Dv H (g i j) (g' i j)) : OpV X f (dI (fun _ _ => True) g') :=
  ⟨_, h, fun G H v1 v2 x y k Q w d1 d2 o q => by
    obtain ⟨i, j, rfl, rfl, _, o⟩ := dI_of o
    exact ⟨i, j, d1.int, d2.int, q _ _ _ o (resF (hg i j))⟩⟩
def dSub : DOp
  | .int i, .int j, k => k (.int (i - j))
  | _, _, _ => False
theorem ov_sub : OpV X (binaryOp .Sub) dSub := ⟨_, op_sub, fun G H v1 v2 x y k Q w d1 d2 o q => by
  unfold dSub at o
  split at o
  · exact ⟨_, _, d1.int, d2.int, q _ _ _ o (resF fun _ => .int _)⟩
  · exact o.elim⟩
/-- ints, lists, bools behind ints -/
def dAdd : DOp
  | .int i, .int j, k => k (.int (i + j))
  | .list xs, .list ys, k => xs.length + ys.length ≤ sizeLine ∧ k (.list (xs ++ ys))
  | .int i, .bool b, k => k (.int (i + b2i b))
  | _, _, _ => False
def rOr (r s : R2) : R2 := fun x y H Q => r x y H Q ∨ s x y H Q
theorem op_or2 {f : Value → Value → Sem Value} {r s : R2} (h1 : OpR X f r) (h2 : OpR X f s) : OpR X f (rOr r s) := fun pins s' σ H x y v u Q I rx ry h => by
  rcases h with h | h
  · exact h1 pins s' σ H x y v u Q I rx ry h
  · exact h2 pins s' σ H x y v u Q I rx ry h
theorem ov_add : OpV X (binaryOp .Add) dAdd := ⟨_, op_or2 (L2.op_add) (op_or2 op_cat op_add_ib), fun G H v1 v2 x y k Q w d1 d2 o q => by
  unfold dAdd at o
  split at o
  · exact .inl ⟨_, _, d1.int, d2.int, q _ _ _ o (resF fun _ => .int _)⟩
  · obtain ⟨a, vs, rfl, h1, e1⟩ := d1.list w
    obtain ⟨b, ws, rfl, h2, e2⟩ := d2.list w
    refine .inr (.inl ⟨a, b, vs, ws, rfl, rfl, h1, h2, by rw [e1.len, e2.len]; exact o.1, fun p hp => q _ _ _ o.2 (res_lst (fun a => w.none) hp (e1.app e2))⟩)
  · exact .inr (.inr ⟨_, _, d1.int, d2.bool, q _ _ _ o (resF fun _ => .int _)⟩)
  · exact o.elim⟩
/-- ints (one of them below 2^64); a list so many times -/
def dMul : DOp
  | .int i, .int j, k => CMul i j ∧ k (.int (i * j))
  | .list xs, .int n, k => (-(2 ^ 63) ≤ n ∧ n < 2 ^ 63 ∧ xs.length * n.toNat ≤ sizeLine) ∧ k (.list (List.replicate n.toNat xs).flatten)
  | _, _, _ => False
theorem DvA.reps {G : Hp} {vs : List V} {ds : List PyData} (h : DvA G vs ds) : ∀ n : Nat, DvA G (List.replicate n vs).flatten (List.replicate n ds).flatten
  | 0 => .nil
  | n + 1 => by
    rw [List.replicate_succ, List.replicate_succ, List.flatten_cons, List.flatten_cons]
    exact h.app (h.reps n)
theorem ov_mul : OpV X (binaryOp .Mult) dMul := ⟨_, op_or2 op_mul op_rep, fun G H v1 v2 x y k Q w d1 d2 o q => by
  unfold dMul at o
  split at o
  · exact .inl ⟨_, _, d1.int, d2.int, o.1, q _ _ _ o.2 (resF fun _ => .int _)⟩
  · obtain ⟨a, vs, rfl, h1, e1⟩ := d1.list w
    obtain ⟨⟨o1, o2, o3⟩, o4⟩ := o
    exact .inr ⟨a, _, vs, rfl, d2.int, h1, o1, o2, by rw [e1.len]; exact o3, fun p hp => q _ _ _ o4 (res_lst (fun a => w.none) hp (e1.reps _))⟩
  · exact o.elim⟩
def dMod : DOp
  | .int i, .int j, k => 0 < j ∧ k (.int (i % j))
  | _, _, _ => False
theorem ov_mod : OpV X (binaryOp .Mod) dMod := ⟨_, op_mod, fun G H v1 v2 x y k Q w d1 d2 o q => by
  unfold dMod at o
  split at o
  · exact ⟨_, _, d1.int, d2.int, o.1, q _ _ _ o.2 (resF fun _ => .int _)⟩
  · exact o.elim⟩
def dDiv : DOp
  | .int i, .int j, k => (0 < j ∧ j < 1000000000000000000000000000000000000000000000000000000000000) ∧ k (.int (i / j))
  | _, _, _ => False
theorem ov_div : OpV X (binaryOp .FloorDiv) dDiv := ⟨_, op_fdivW, fun G H v1 v2 x y k Q w d1 d2 o q => by
  unfold dDiv at o
  split at o
  · exact ⟨_, _, d1.int, d2.int, divW o.1.1 o.1.2, q _ _ _ o.2 (resF fun _ => .int _)⟩
  · exact o.elim⟩
def dPow : DOp
  | .int i, .int j, k => (0 ≤ j ∧ j ≤ 10 ∧ -1000000000000000000000000000000000000000000000000000000000000 < i ∧ i < 1000000000000000000000000000000000000000000000000000000000000 ∨ 0 ≤ j ∧ j ≤ 1000 ∧ -1000 ≤ i ∧ i ≤ 1000) ∧ k (.int (i ^ j.toNat))
  | _, _, _ => False
theorem ov_pow : OpV X (binaryOp .Pow) dPow := ⟨_, op_or2 op_powW op_powC, fun G H v1 v2 x y k Q w d1 d2 o q => by
  unfold dPow at o
  split at o
  · obtain ⟨o1, o2⟩ := o
    rcases o1 with ⟨a, b, c, d⟩ | o1
    · have z := q _ (.int _) _ o2 (resF fun _ => .int _)
      exact .inl ⟨_, _, d1.int, d2.int, ⟨a, b, pow200 (by omega)⟩, z⟩
    · exact .inr ⟨_, _, _, d1.int, d2.int, ⟨o1.1, o1.2.1, by omega⟩, rfl, q _ _ _ o2 (resF fun _ => .int _)⟩
  · exact o.elim⟩
/-! ### comparisons -/
def dLt : DOp
  | .int i, .int j, k => k (.bool (decide (i < j)))
  | _, _, _ => False
def dLe : DOp
  | .int i, .int j, k => k (.bool (decide (i ≤ j)))
  | _, _, _ => False
def dGt : DOp
  | .int i, .int j, k => k (.bool (decide (j < i)))
  | _, _, _ => False
def dGe : DOp
  | .int i, .int j, k => k (.bool (decide (j ≤ i)))
  | _, _, _ => False
theorem ov_lt : OpV X (compareOp .Lt) dLt := ⟨_, op_lt, fun G H v1 v2 x y k Q w d1 d2 o q => by
  unfold dLt at o
  split at o
  · exact ⟨_, _, d1.int, d2.int, q _ _ _ o (resF fun _ => .bl _)⟩
  · exact o.elim⟩
theorem ov_le : OpV X (compareOp .LtE) dLe := ⟨_, op_le, fun G H v1 v2 x y k Q w d1 d2 o q => by
  unfold dLe at o
  split at o
  · exact ⟨_, _, d1.int, d2.int, q _ _ _ o (resF fun _ => .bl _)⟩
  · exact o.elim⟩
theorem ov_gt : OpV X (compareOp .Gt) dGt := ⟨_, op_gt, fun G H v1 v2 x y k Q w d1 d2 o q => by
  unfold dGt at o
  split at o
  · exact ⟨_, _, d1.int, d2.int, q _ _ _ o (resF fun _ => .bl _)⟩
  · exact o.elim⟩
theorem ov_ge : OpV X (compareOp .GtE) dGe := ⟨_, op_ge, fun G H v1 v2 x y k Q w d1 d2 o q => by
  unfold dGe at o
  split at o
  · exact ⟨_, _, d1.int, d2.int, q _ _ _ o (resF fun _ => .bl _)⟩
  · exact o.elim⟩
/-- ints; texts; else data that == takes -/
def dEq : DOp
  | .int i, .int j, k => k (.bool (decide (i = j)))
  | .str i, .str j, k => k (.bool (decide (i = j)))
  | x, y, k => (SeqAt.shaped x = true ∧ SeqAt.shaped y = true) ∧ k (.bool (PyData.eqv x y))
def dNe : DOp
  | .int i, .int j, k => k (.bool (!decide (i = j)))
  | .str i, .str j, k => k (.bool (!decide (i = j)))
  | x, y, k => (SeqAt.shaped x = true ∧ SeqAt.shaped y = true) ∧ k (.bool (!PyData.eqv x y))
theorem shaped_lay {d : PyData} (h : SeqAt.shaped d = true) : d.canLay0 = true := by
  unfold SeqAt.shaped at h
  exact (Bool.and_eq_true_iff.mp h).1
theorem dec_vi {i j : Int} : decide (V.int i = V.int j) = decide (i = j) := by simp
theorem dec_vs {i j : Str} : decide (V.str i = V.str j) = decide (i = j) := by simp
theorem ov_eq (hu : X.A.units + 64 < cLine) : OpV X (compareOp .Eq) dEq := ⟨_, op_or2 op_eq (op_eqD hu), fun G H v1 v2 x y k Q w d1 d2 o q => by
  unfold dEq at o
  split at o
  · refine .inl ?_
    rw [d1.int, d2.int]
    exact ⟨rfl, by rw [dec_vi]; exact q _ _ _ o (resF fun _ => .bl _)⟩
  · refine .inl ?_
    rw [d1.str, d2.str]
    exact ⟨rfl, by rw [dec_vs]; exact q _ _ _ o (resF fun _ => .bl _)⟩
  · exact .inr ⟨_, _, Dv.dp _ _ (shaped_lay o.1.1) (d1.dv w.toLe), Dv.dp _ _ (shaped_lay o.1.2) (d2.dv w.toLe), o.1.1, o.1.2, q _ _ _ o.2 (resF fun _ => .bl _)⟩⟩
theorem ov_ne (hu : X.A.units + 64 < cLine) : OpV X (compareOp .NotEq) dNe := ⟨_, op_or2 op_ne (op_neD hu), fun G H v1 v2 x y k Q w d1 d2 o q => by
  unfold dNe at o
  split at o
  · refine .inl ?_
    rw [d1.int, d2.int]
    exact ⟨rfl, by rw [dec_vi]; exact q _ _ _ o (resF fun _ => .bl _)⟩
  · refine .inl ?_
    rw [d1.str, d2.str]
    exact ⟨rfl, by rw [dec_vs]; exact q _ _ _ o (resF fun _ => .bl _)⟩
  · exact .inr ⟨_, _, Dv.dp _ _ (shaped_lay o.1.1) (d1.dv w.toLe), Dv.dp _ _ (shaped_lay o.1.2) (d2.dv w.toLe), o.1.1, o.1.2, q _ _ _ o.2 (resF fun _ => .bl _)⟩⟩
def dNeg : PyData → (PyData → Prop) → Prop
  | .int i, k => k (.int (-i))
  | _, _ => False
theorem uv_neg : UnV X (unaryOp .USub) dNeg := ⟨_, un_neg, fun G H v x k Q w d1 o q => by
  unfold dNeg at o
  split at o
  · exact ⟨_, d1.int, q _ _ _ o (resF fun _ => .int _)⟩
  · exact o.elim⟩
/-! ### subscripts -/
def dIxL (xs : List PyData) (i : Int) (k : PyData → Prop) : Prop := ∃ z, atI xs i = some z ∧ k z
def dIx : DOp
  | .list xs, .int i, k => dIxL xs i k
  | .tuple xs, .int i, k => dIxL xs i k
  | _, _, _ => False
theorem DvA.at {G : Hp} {vs : List V} {ds : List PyData} (h : DvA G vs ds) {i : Int} {d : PyData} (e : atI ds i = some d) : ∃ v, atI vs i = some v ∧ Dv G v d := by
  unfold atI at e ⊢
  rw [h.len]
  cases q : ixN ds.length i with
  | none => rw [q] at e; cases e
  | some j =>
    rw [q] at e
    exact h.get (i := j) e
theorem ix_or {r s : R2} (h1 : IxR X r) (h2 : IxR X s) : IxR X (rOr r s) := fun value slice pins s' σ H x y v u Q I rx ry h hs => by
  rcases h with h | h
  · exact h1 value slice pins s' σ H x y v u Q I rx ry h hs
  · exact h2 value slice pins s' σ H x y v u Q I rx ry h hs
variable {Tb : List Addr} {a b c e : Expr} {fa fb fc fe : VF} {pos : Pos}
theorem ve_ix (ha : VE X Tb a fa) (hb : VE X Tb b fb) (hs : PlainIx b := by intro _ _; rfl) : VE X Tb (.Subscript a b pos) (vOp dIx fa fb) := by
  refine PE.imp (pe_ix (ix_or (r := rIxL X.K) (s := rIxT X.K) ix_list ix_tup) ha hb hs) fun σ H Q h => op_core (f := binaryOp .Add) (fun G H v1 v2 x y k Q w d1 d2 o q => ?_) h
  unfold dIx at o
  split at o
  · obtain ⟨p, vs, rfl, h1, e1⟩ := d1.list w
    obtain ⟨z, hz, o⟩ := o
    obtain ⟨v, hv, dv⟩ := e1.at hz
    exact .inl ⟨p, vs, _, v, rfl, d2.int, sq h1, hv, q _ _ _ o (.inl ⟨rfl, dv⟩)⟩
  · obtain ⟨p, vs, rfl, h1, e1⟩ := d1.tuple w
    obtain ⟨z, hz, o⟩ := o
    obtain ⟨v, hv, dv⟩ := e1.at hz
    exact .inr ⟨p, vs, _, v, rfl, d2.int, sqt h1, hv, q _ _ _ o (.inl ⟨rfl, dv⟩)⟩
  · exact o.elim
/-! ### slices -/
abbrev VO := En → (Option Int → En → Prop) → Prop
def cO (Tb : List Addr) (f : VO) : TO := fun σ H Q => ∃ F O env k, Rep Tb F O σ H env ∧ f env k ∧ ∀ i env' H', Rep Tb F O σ H' env' → Gr F O H H' → k i env' → Q i H'
abbrev VOt (X : Cx) (Tb : List Addr) (e : Option Expr) (f : VO) : Prop := PO X e (cO Tb f)
theorem PO.imp {e : Option Expr} {t u : TO} (h : PO X e t) (i : ∀ σ H Q, u σ H Q → t σ H Q) : PO X e u := ⟨fun pins s σ H Q I q => h.run pins s σ H Q I (i _ _ _ q)⟩
def vNoPart : VO := fun env k => k none env
def wI (k : Option Int → En → Prop) : W → En → Prop
  | .d (.int i), e => k (some i) e
  | _, _ => False
def vPart (fa : VF) : VO := fun env k => fa env (wI k)
theorem vo_none : VOt X Tb none vNoPart := PO.imp po_none fun σ H Q ⟨F, O, env, k, R, h, q⟩ => q none env H R Gr.rfl h
theorem vo_some (ha : VE X Tb a fa) : VOt X Tb (some a) (vPart fa) := PO.imp (po_some ha) fun σ H Q ⟨F, O, env, k, R, h, q⟩ => ⟨F, O, env, _, R, h, fun w e1 v H1 R1 r1 g1 h1 => by
  cases w with
  | own i => exact h1.elim
  | d x =>
    cases x with
    | int i => cases r1; exact ⟨i, rfl, q (some i) e1 H1 R1 g1 h1⟩
    | _ => exact h1.elim⟩
/-- the items from lo to hi -/
def cutD (xs : List PyData) (lo hi : Option Int) : List PyData := (xs.drop (HT.sIx xs.length 0 lo)).take (HT.sIx xs.length xs.length hi - HT.sIx xs.length 0 lo)
theorem DvA.cut {G : Hp} {vs : List V} {ds : List PyData} (h : DvA G vs ds) (lo hi : Option Int) : DvA G (cutV vs lo hi) (cutD ds lo hi) := by
  unfold cutV cutD
  rw [h.len]
  exact (h.drop _).take _
def dSl (lo hi : Option Int) : PyData → (PyData → Prop) → Prop
  | .list xs, k => k (.list (cutD xs lo hi))
  | _, _ => False
def vSl (fa : VF) (fl fh : VO) : VF := fun env k => fa env fun w e1 => fl e1 fun lo e2 => fh e2 fun hi e3 => vOne (dSl lo hi) (lk e3 w) fun z => k (.d z) e3
theorem vOne_of {op : PyData → (PyData → Prop) → Prop} {x : Option PyData} {k : PyData → Prop} (h : vOne op x k) : ∃ d, x = some d ∧ op d k := by
  unfold vOne at h
  split at h
  · exact ⟨_, rfl, h⟩
  · exact h.elim
theorem ve_slice {lo hi : Option Expr} {fl fh : VO} {p2 : Pos} (ha : VE X Tb a fa) (hl : VOt X Tb lo fl) (hh : VOt X Tb hi fh) : VE X Tb (.Subscript a (.Slice lo hi none p2) pos) (vSl fa fl fh) :=
  PE.imp (pe_slice sl_list ha hl hh) fun σ H Q ⟨F, O, env, k, R, h, q⟩ => ⟨F, O, env, _, R, h, fun w e1 v H1 R1 r1 g1 h1 => ⟨F, O, e1, _, R1, h1, fun lo e2 H2 R2 g2 h2 => ⟨F, O, e2, _, R2, h2, fun hi e3 H3 R3 g3 h3 => by
    obtain ⟨d, ed, h3⟩ := vOne_of h3
    unfold dSl at h3
    split at h3
    · obtain ⟨p, vs, rfl, hp, dv⟩ := (R3.dl (r1.gr (g2.trans g3)) ed).list view_vw
      refine ⟨p, vs, rfl, sq hp, fun p hp => ?_⟩
      obtain ⟨R4, r4, g4⟩ := R3.res (res_lst (fun a => vw_none) hp (dv.cut lo hi))
      exact q _ e3 _ _ R4 r4 (g1.trans (g2.trans (g3.trans g4))) h3
    · exact h3.elim⟩⟩⟩
def dRev : PyData → (PyData → Prop) → Prop
  | .list xs, k => k (.list xs.reverse)
  | _, _ => False
theorem ve_revL {k : Nat} {p1 p2 p3 : Pos} (ha : VE X Tb a fa) : VE X Tb (.Subscript a (.Slice none none (some (.UnaryOp .USub (.Constant (.int 1) k p1) p2)) p3) pos) (vUn dRev fa) :=
  PE.imp (pe_revL ha) fun σ H Q ⟨F, O, env, k, R, h, q⟩ => ⟨F, O, env, _, R, h, fun w e1 v H1 R1 r1 g1 h1 => by
    obtain ⟨d, ed, h1⟩ := vOne_of h1
    unfold dRev at h1
    split at h1
    · obtain ⟨p, vs, rfl, hp, dv⟩ := (R1.dl r1 ed).list view_vw
      refine ⟨p, vs, rfl, sq hp, fun p hp => ?_⟩
      obtain ⟨R4, r4, g4⟩ := R1.res (res_lst (fun a => vw_none) hp dv.rev)
      exact q _ e1 _ _ R4 r4 (g1.trans g4) h1
    · exact h1.elim⟩
/-! ### calls of built-in functions -/
def lks (env : En) : List W → Option (List PyData)
  | [] => some []
  | w :: ws => match lk env w, lks env ws with
    | some x, some xs => some (x :: xs)
    | _, _ => none
theorem lks_dl {F : Fr} {O : Ow} {σ : L2.St} {H : Hp} {env : En} (R : Rep Tb F O σ H env) : ∀ {vs : List V} {ws : List W} {xs : List PyData}, RWs F O H vs ws → lks env ws = some xs → DlA (vw F O H) H vs xs
  | _, _, _, .nil, h => by
    cases (Option.some.inj h)
    exact .nil
  | _, _, xs, .cons (w := w) (ws := ws) a b, h => by
    unfold lks at h
    split at h
    · rename_i x ys e1 e2
      cases (Option.some.inj h)
      exact .cons (R.dl a e1) (lks_dl R b e2)
    · cases h
def vCB (op : DFn) (fs : VA) : VF := fun env k => fs env fun ws e1 => vDs (fun xs => op xs fun z => k (.d z) e1) (lks e1 ws)
variable {es : List Expr} {fs : VA} {x : Str} {p : Pos} {id : String} {op : DFn}
theorem cb_core {r : List V → Hp → VK → Prop} (hv : ∀ (G H : Hp) (vs : List V) (xs : List PyData) (k : PyData → Prop) (Q : VK), View G H → DlA G H vs xs → op xs k → (∀ z v H', k z → Res G H v z H' → Q v H') → r vs H Q)
    {σ : L2.St} {H : Hp} {Q : VK} (h : cE Tb (vCB op fs) σ H Q) : tCB r (cA Tb fs) σ H Q := by
  obtain ⟨F, O, env, k, R, h, q⟩ := h
  refine ⟨F, O, env, _, R, h, fun ws e1 vs H1 R1 r1 g1 h1 => ?_⟩
  obtain ⟨xs, ex, h1⟩ := vDs_of h1
  refine hv (vw F O H1) H1 vs xs _ Q view_vw (lks_dl R1 r1 ex) h1 fun z v H' kz res => ?_
  obtain ⟨R3, rw3, g3⟩ := R1.res res
  exact q (.d z) e1 v H' R3 rw3 (g1.trans g3) kz
theorem ve_callB (hc : CallV X (.builtin id) op) (hg : Gl X x) (hm : X.mg x = none) (hv : bootBuiltins x = some (.builtin id)) (ha : VAs X Tb (e :: es) fs) (hn : x ≠ "__name__" := by decide) (hdb : (x == ("__debug__" : Str)) = false := by decide)
    (he : starEach (e :: es) X.env = (false, eval e X.env) :: starEach es X.env := by rfl) (hpl : (backTo pos (starEach es X.env)).any (·.1) = false := by rfl) : VE X Tb (.Call (.Name x p) (e :: es) [] pos) (vCB op fs) := by
  obtain ⟨r, hr, h⟩ := hc
  exact PE.imp (pe_callB hr hg hm hv ha hn hdb he hpl) fun σ H Q q => cb_core h q
theorem ve_callTy (hc : CallV X (.type id) op) (hg : Gl X x) (hm : X.mg x = none) (hv : bootBuiltins x = some (.type id)) (ha : VAs X Tb (e :: es) fs) (hn : x ≠ "__name__" := by decide) (hdb : (x == ("__debug__" : Str)) = false := by decide)
    (he : starEach (e :: es) X.env = (false, eval e X.env) :: starEach es X.env := by rfl) (hpl : (backTo pos (starEach es X.env)).any (·.1) = false := by rfl) : VE X Tb (.Call (.Name x p) (e :: es) [] pos) (vCB op fs) := by
  obtain ⟨r, hr, h⟩ := hc
  exact PE.imp (pe_callTy hr hg hm hv ha hn hdb he hpl) fun σ H Q q => cb_core h q
def dLen : DFn
  | [.list xs], k => k (.int xs.length)
  | [.tuple xs], k => k (.int xs.length)
  | _, _ => False
theorem DlA.one {G H : Hp} {vs : List V} {x : PyData} (h : DlA G H vs [x]) : ∃ v, vs = [v] ∧ Dl G H v x := by
  cases h with
  | cons a b => cases b; exact ⟨_, rfl, a⟩
theorem DlA.two {G H : Hp} {vs : List V} {x y : PyData} (h : DlA G H vs [x, y]) : ∃ v w, vs = [v, w] ∧ Dl G H v x ∧ Dl G H w y := by
  cases h with
  | cons a b =>
    obtain ⟨w, rfl, d⟩ := b.one
    exact ⟨_, w, rfl, a, d⟩
theorem cv_len : CallV X (.builtin "len") dLen := ⟨_, call_len_seq, fun G H vs xs k Q w d o q => by
  unfold dLen at o
  split at o
  · obtain ⟨v, rfl, d1⟩ := d.one
    obtain ⟨p, vs, rfl, hp, dv⟩ := d1.list w
    exact ⟨p, vs, rfl, .inl (sq hp), by rw [dv.len]; exact q _ _ _ o (resF fun _ => .int _)⟩
  · obtain ⟨v, rfl, d1⟩ := d.one
    obtain ⟨p, vs, rfl, hp, dv⟩ := d1.tuple w
    exact ⟨p, vs, rfl, .inr (sqt hp), by rw [dv.len]; exact q _ _ _ o (resF fun _ => .int _)⟩
  · exact o.elim⟩
def dAbs : DFn
  | [.int i], k => k (.int (if i < 0 then -i else i))
  | _, _ => False
theorem cv_abs : CallV X (.builtin "abs") dAbs := ⟨_, call_abs, fun G H vs xs k Q w d o q => by
  unfold dAbs at o
  split at o
  · obtain ⟨v, rfl, d1⟩ := d.one
    exact ⟨_, by rw [d1.int], q _ _ _ o (resF fun _ => .int _)⟩
  · exact o.elim⟩
def dMax2 : DFn
  | [.int i, .int j], k => k (.int (max i j))
  | _, _ => False
def dMin2 : DFn
  | [.int i, .int j], k => k (.int (min i j))
  | _, _ => False
theorem cv_max2 (hc : X.calm = true) : CallV X (.builtin "max") dMax2 := ⟨_, call_max2 hc, fun G H vs xs k Q w d o q => by
  unfold dMax2 at o
  split at o
  · rename_i i j
    obtain ⟨v, u, rfl, d1, d2⟩ := d.two
    refine ⟨_, _, by rw [d1.int, d2.int], ?_⟩
    have e : (if j > i then j else i) = max i j := by split <;> omega
    rw [e]
    exact q _ _ _ o (resF fun _ => .int _)
  · exact o.elim⟩
theorem cv_min2 (hc : X.calm = true) : CallV X (.builtin "min") dMin2 := ⟨_, call_min2 hc, fun G H vs xs k Q w d o q => by
  unfold dMin2 at o
  split at o
  · rename_i i j
    obtain ⟨v, u, rfl, d1, d2⟩ := d.two
    refine ⟨_, _, by rw [d1.int, d2.int], ?_⟩
    have e : (if j < i then j else i) = min i j := by split <;> omega
    rw [e]
    exact q _ _ _ o (resF fun _ => .int _)
  · exact o.elim⟩
/-- a list of whole numbers -/
abbrev il (ns : List Int) : PyData := .list (ns.map .int)
def dInts (xs : List PyData) (k : List Int → Prop) : Prop := ∃ ns : List Int, xs = ns.map .int ∧ k ns
theorem DvA.ints' {G : Hp} {vs : List V} {ns : List Int} (h : DvA G vs (ns.map .int)) : vs = ns.map V.int := h.ints
def dSum : DFn
  | [.list xs], k => dInts xs fun ns => k (.int ns.sum)
  | _, _ => False
theorem cv_sum (hc : X.calm = true) : CallV X (.builtin "sum") dSum := ⟨_, cr_sum hc, fun G H vs xs k Q w d o q => by
  unfold dSum at o
  split at o
  · obtain ⟨v, rfl, d1⟩ := d.one
    obtain ⟨p, vs, rfl, hp, dv⟩ := d1.list w
    obtain ⟨ns, rfl, o⟩ := o
    rw [dv.ints] at hp
    exact ⟨p, ns, rfl, sq hp, q _ _ _ o (resF fun _ => .int _)⟩
  · exact o.elim⟩
def dMax1 : DFn
  | [.list xs], k => dInts xs fun ns => ns ≠ [] ∧ ∀ m, m ∈ ns → (∀ y ∈ ns, y ≤ m) → k (.int m)
  | _, _ => False
def dMin1 : DFn
  | [.list xs], k => dInts xs fun ns => ns ≠ [] ∧ ∀ m, m ∈ ns → (∀ y ∈ ns, m ≤ y) → k (.int m)
  | _, _ => False
theorem pos_of_ne {α : Type} {l : List α} (h : l ≠ []) : 0 < l.length := by
  cases l with
  | nil => exact absurd rfl h
  | cons _ _ => exact Nat.zero_lt_succ _
theorem cv_max1 (hc : X.calm = true) : CallV X (.builtin "max") dMax1 := ⟨_, cr_max hc, fun G H vs xs k Q w d o q => by
  unfold dMax1 at o
  split at o
  · obtain ⟨v, rfl, d1⟩ := d.one
    obtain ⟨p, vs, rfl, hp, dv⟩ := d1.list w
    obtain ⟨ns, rfl, h0, o⟩ := o
    rw [dv.ints] at hp
    exact ⟨p, ns, rfl, sq hp, pos_of_ne h0, fun m h1 h2 => q _ _ _ (o m h1 h2) (resF fun _ => .int _)⟩
  · exact o.elim⟩
theorem cv_min1 (hc : X.calm = true) : CallV X (.builtin "min") dMin1 := ⟨_, cr_min hc, fun G H vs xs k Q w d o q => by
  unfold dMin1 at o
  split at o
  · obtain ⟨v, rfl, d1⟩ := d.one
    obtain ⟨p, vs, rfl, hp, dv⟩ := d1.list w
    obtain ⟨ns, rfl, h0, o⟩ := o
    rw [dv.ints] at hp
    exact ⟨p, ns, rfl, sq hp, pos_of_ne h0, fun m h1 h2 => q _ _ _ (o m h1 h2) (resF fun _ => .int _)⟩
  · exact o.elim⟩
def dInt1 : DFn
  | [.int i], k => k (.int i)
  | [.bool b], k => k (.int (if b then 1 else 0))
  | _, _ => False
theorem cv_int1 : CallV X (.type "int") dInt1 := ⟨_, call_int1, fun G H vs xs k Q w d o q => by
  unfold dInt1 at o
  split at o
  · obtain ⟨v, rfl, d1⟩ := d.one
    exact .inl ⟨_, by rw [d1.int], q _ _ _ o (resF fun _ => .int _)⟩
  · obtain ⟨v, rfl, d1⟩ := d.one
    exact .inr ⟨_, by rw [d1.bool], q _ _ _ o (resF fun _ => .int _)⟩
  · exact o.elim⟩
def dListOf : DFn
  | [.list xs], k => k (.list xs)
  | [.tuple xs], k => k (.list xs)
  | _, _ => False
theorem cv_list : CallV X (.type "list") dListOf := ⟨_, call_list_of, fun G H vs xs k Q w d o q => by
  unfold dListOf at o
  split at o
  · obtain ⟨v, rfl, d1⟩ := d.one
    obtain ⟨p, vs, rfl, hp, dv⟩ := d1.list w
    exact ⟨p, vs, rfl, .inl (sq hp), fun l hl => q _ _ _ o (res_lst (fun a => w.none) hl dv)⟩
  · obtain ⟨v, rfl, d1⟩ := d.one
    obtain ⟨p, vs, rfl, hp, dv⟩ := d1.tuple w
    exact ⟨p, vs, rfl, .inr (sqt hp), fun l hl => q _ _ _ o (res_lst (fun a => w.none) hl dv)⟩
  · exact o.elim⟩
def dTupleOf : DFn
  | [.list xs], k => k (.tuple xs)
  | _, _ => False
theorem cv_tuple : CallV X (.type "tuple") dTupleOf := ⟨_, call_tuple_of, fun G H vs xs k Q w d o q => by
  unfold dTupleOf at o
  split at o
  · obtain ⟨v, rfl, d1⟩ := d.one
    obtain ⟨p, vs, rfl, hp, dv⟩ := d1.list w
    exact ⟨p, vs, rfl, .inl ⟨sq hp, fun l hl => q _ _ _ o (res_tup (fun a => w.none) hl dv)⟩⟩
  · exact o.elim⟩
def dSorted : DFn
  | [.list xs], k => dInts xs fun ns => ∀ ms, ms.Perm ns → ms.Pairwise (· ≤ ·) → k (il ms)
  | _, _ => False
theorem cv_sorted : CallV X (.builtin "sorted") dSorted := ⟨_, cr_sortedI, fun G H vs xs k Q w d o q => by
  unfold dSorted at o
  split at o
  · obtain ⟨v, rfl, d1⟩ := d.one
    obtain ⟨p, vs, rfl, hp, dv⟩ := d1.list w
    obtain ⟨ns, rfl, o⟩ := o
    rw [dv.ints] at hp
    exact ⟨p, ns, rfl, sq hp, fun ms l h1 h2 hl => q _ _ _ (o ms h1 h2) (res_lst (fun a => w.none) hl (DvA.ofInts ms))⟩
  · exact o.elim⟩
/-- sorted(.., reverse=True) -/
def dSortedR : DFn
  | [.list xs], k => dInts xs fun ns => ∀ ms, ms.Perm ns → ms.Pairwise (· ≥ ·) → k (il ms)
  | _, _ => False
theorem ve_sortedR {kws : List Keyword} (hk : PK X kws (tCons (tC (.bl true)) tNil)) (hg : Gl X "sorted") (hm : X.mg "sorted" = none) (ha : VAs X Tb (e :: es) fs)
    (he : backTo pos (starEach (e :: es) X.env) = (false, eval e X.env) :: backTo pos (starEach es X.env) := by rfl) (hpl : (backTo pos (starEach (e :: es) X.env)).any (·.1) = false := by rfl)
    (hall : (backToKw pos (keywordEach kws X.env)).all (·.1.isSome) = true := by rfl) (hnone : (backToKw pos (keywordEach kws X.env)).any (·.1.isNone) = false := by rfl) (hks : (backToKw pos (keywordEach kws X.env)).filterMap (·.1) = [Str.ofString "reverse"] := by rfl) :
    VE X Tb (.Call (.Name "sorted" p) (e :: es) kws pos) (vCB dSortedR fs) :=
  PE.imp (pe_callBK (cr_sortedRev (b := true)) hg hm (by decide +kernel) ha hk (by decide) (by decide) he hpl hall hnone hks) fun σ H Q ⟨F, O, env, k, R, h, q⟩ => ⟨F, O, env, _, R, h, fun ws e1 vs H1 R1 r1 g1 h1 => by
    obtain ⟨xs, ex, h1⟩ := vDs_of h1
    have dl := lks_dl R1 r1 ex
    unfold dSortedR at h1
    split at h1
    · obtain ⟨v, rfl, d1⟩ := dl.one
      obtain ⟨p, vs, rfl, hp, dv⟩ := d1.list view_vw
      obtain ⟨ns, rfl, h1⟩ := h1
      rw [dv.ints] at hp
      refine ⟨p, ns, rfl, rfl, sq hp, fun ms l hm1 hm2 hl => ?_⟩
      obtain ⟨R3, rw3, g3⟩ := R1.res (res_lst (fun a => vw_none) hl (DvA.ofInts ms))
      exact q _ e1 _ _ R3 rw3 (g1.trans g3) (h1 ms hm1 hm2)
    · exact h1.elim⟩
end
end Sp
end

section
set_option maxHeartbeats 1000000
/-! What stays true of the slots when one of them, or an own list, is changed. -/
namespace Sp
open PySem PySem.Spec PyProof.Rows L2
def clr (O : Ow) (sl : List Nat) : Ow := fun j => if j ∈ sl then none else O j
theorem clr_some {O : Ow} {sl : List Nat} {j : Nat} {a : Addr} (h : clr O sl j = some a) : j ∉ sl ∧ O j = some a := by
  unfold clr at h
  split at h
  · cases h
  · exact ⟨by assumption, h⟩
theorem clr_ne {O : Ow} {sl : List Nat} {j : Nat} (h : j ∉ sl) : clr O sl j = O j := by
  unfold clr
  rw [if_neg h]
theorem clr_clr {O : Ow} {s t : List Nat} : clr (clr O s) t = clr O (s ++ t) := by
  funext j
  unfold clr
  by_cases h1 : j ∈ s <;> by_cases h2 : j ∈ t <;> simp [h1, h2]
theorem clr_nil {O : Ow} : clr O [] = O := by
  funext j
  rfl
theorem vw_clr {F : Fr} {O : Ow} {H : Hp} {sl : List Nat} : Le (vw F O H) (vw F (clr O sl) H) := fun a o e _ => by
  obtain ⟨n, e⟩ := hide_some e
  refine hide_of (fun z => n ?_) e
  rcases z with z | ⟨j, z⟩
  · exact .inl z
  · exact .inr ⟨j, (clr_some z).2⟩
section
variable {Tb : List Addr} {F : Fr} {O : Ow} {σ : L2.St} {H H' : Hp} {env : En} {i : Nat}
theorem get_set {α : Type} {l : List α} {i j : Nat} {x y : α} (h : (l.set i x)[j]? = some y) : (i = j ∧ y = x ∧ i < l.length) ∨ (i ≠ j ∧ l[j]? = some y) := by
  by_cases e : i = j
  · subst e
    by_cases hl : i < l.length
    · rw [List.getElem?_set_self hl] at h
      exact .inl ⟨rfl, (Option.some.inj h).symm, hl⟩
    · rw [List.getElem?_eq_none (by rw [List.length_set]; omega)] at h
      cases h
  · rw [List.getElem?_set_ne e] at h
    exact .inr ⟨e, h⟩
theorem RS.mono {F' : Fr} {O' : Ow} {H' : Hp} {s : SV} {v : Option V} (h : RS F O H i s v) (l : Le (vw F O H) (vw F' O' H')) (ho : O' i = O i) (hh : ∀ a, O i = some a → H' a = H a) : RS F' O' H' i s v := by
  cases s with
  | u => trivial
  | d x =>
    obtain ⟨v, rfl, h⟩ := h
    exact ⟨v, rfl, Dv.le l _ _ h⟩
  | o xs =>
    obtain ⟨a, vs, rfl, h1, h2, h3⟩ := h
    exact ⟨a, vs, rfl, ho.trans h1, by rw [hh a h1]; exact h2, DvA.le l _ _ h3⟩
  | c a M =>
    obtain ⟨rfl, h1, x, y, n, h3, r⟩ := h
    exact ⟨rfl, ho.trans h1, x, y, n, by rw [hh a h1]; exact h3, r⟩
  | r v => exact h
  | x b ts =>
    refine ⟨h.1, fun p hp => ?_⟩
    obtain ⟨h1, h2, h3⟩ := h.2 p hp
    obtain ⟨n, e⟩ := hide_some (l _ _ (hide_of h1 h2) h3)
    exact ⟨n, e, h3⟩
/-- a slot is set to something that is no own list -/
theorem Rep.put (R : Rep Tb F O σ H env) {v : Option V} {s : SV} (hi : i < env.length) (hs : RS F (clr O [i]) H i s v) (hn : (∀ xs, s ≠ .o xs) ∧ ∀ a M, s ≠ .c a M) : Rep Tb F (clr O [i]) (σ.set i v) H (env.set i s) := by
  refine ⟨R.ex, R.tb, by rw [List.length_set, List.length_set, R.len], fun j t w e1 e2 => ?_, R.hdn, fun j a e => R.own j a (clr_some e).2, fun j a e => ?_, fun j a e hd => ?_, fun j k a e1 e2 => R.inj j k a (clr_some e1).2 (clr_some e2).2, fun p hp => Dv.le vw_clr _ _ (R.ps p hp)⟩
  · rcases get_set e1 with ⟨rfl, rfl, _⟩ | ⟨n, e1⟩
    · rcases get_set e2 with ⟨_, rfl, _⟩ | ⟨n, _⟩
      · exact hs
      · exact absurd rfl n
    · rcases get_set e2 with ⟨z, _⟩ | ⟨_, e2⟩
      · exact absurd z n
      · exact (R.sl j t w e1 e2).mono vw_clr (clr_ne (by simpa using fun z => n z.symm)) fun _ _ => rfl
  · obtain ⟨n, e⟩ := clr_some e
    have n' : i ≠ j := fun z => n (by simp [z])
    rcases R.ow j a e with ⟨xs, q⟩ | ⟨M, q⟩
    · exact .inl ⟨xs, by rw [List.getElem?_set_ne n']; exact q⟩
    · exact .inr ⟨M, by rw [List.getElem?_set_ne n']; exact q⟩
  · obtain ⟨n, e⟩ := clr_some e
    obtain ⟨M, q⟩ := R.onh j a e hd
    exact ⟨M, by rw [List.getElem?_set_ne (fun z => n (by simp [z]))]; exact q⟩
theorem Rep.putD (R : Rep Tb F O σ H env) {v : V} {x : PyData} (hi : i < env.length) (h : Dv (vw F O H) v x) : Rep Tb F (clr O [i]) (σ.set i (some v)) H (env.set i (.d x)) :=
  R.put hi ⟨v, rfl, Dv.le vw_clr _ _ h⟩ ⟨fun _ z => (by cases z), fun _ _ z => (by cases z)⟩
theorem Rep.putU (R : Rep Tb F O σ H env) {v : Option V} (hi : i < env.length) : Rep Tb F (clr O [i]) (σ.set i v) H (env.set i .u) :=
  R.put hi trivial ⟨fun _ z => (by cases z), fun _ _ z => (by cases z)⟩
/-- an own list becomes a datum -/
theorem Rep.frz (R : Rep Tb F O σ H env) {xs : List PyData} (e : env[i]? = some (.o xs)) : Rep Tb F (clr O [i]) σ H (env.set i (.d (.list xs))) := by
  obtain ⟨v, ev, a, vs, rfl, ho, hv, hd⟩ := R.slot e
  have hi := (List.getElem?_eq_some_iff.mp e).1
  have hσ : σ.set i (some (.ref a)) = σ := by
    apply List.ext_getElem?
    intro j
    by_cases z : i = j
    · subst z
      rw [List.getElem?_set_self (by rw [← R.len]; exact hi), ev]
    · rw [List.getElem?_set_ne z]
  have q := R.put (i := i) (v := some (.ref a)) (s := .d (.list xs)) hi ⟨_, rfl, .lst (hide_of (fun z => ?_) hv) (DvA.le vw_clr _ _ hd)⟩ ⟨fun _ z => (by cases z), fun _ _ z => (by cases z)⟩
  · rw [hσ] at q
    exact q
  · rcases z with z | ⟨j, z⟩
    · obtain ⟨M, q⟩ := R.onh i a ho z
      rw [e] at q
      cases q
    · obtain ⟨n, z⟩ := clr_some z
      exact n (by simp [R.inj j i a z ho])
/-- the item at i is set to what it is -/
theorem set_id {α : Type} {l : List α} {i : Nat} {x : α} (h : l[i]? = some x) : l.set i x = l := by
  apply List.ext_getElem?
  intro j
  by_cases z : i = j
  · subst z
    rw [List.getElem?_set_self (List.getElem?_eq_some_iff.mp h).1, h]
  · rw [List.getElem?_set_ne z]
/-- a slot's own list is written -/
theorem Rep.write (R : Rep Tb F O σ H env) {xs ys : List PyData} {a : Addr} {vs ws : List V} (e : env[i]? = some (.o xs)) (ho : O i = some a) (ha : H a = some (.lst vs)) (hd : DvA (vw F O H) ws ys) :
    Rep Tb F O σ (upd H a (.lst ws)) (env.set i (.o ys)) ∧ Gr F O H (upd H a (.lst ws)) := by
  have g : Gr F O H (upd H a (.lst ws)) := fun b o n q _ => by
    rw [upd_ne (fun z => n (.inr ⟨i, by rw [z]; exact ho⟩))]
    exact q
  have x : Ex [a] H (upd H a (.lst ws)) := Ex.set ha (fun _ z => nomatch z) (by simp)
  refine ⟨⟨?_, fun T t => x.tab T (R.tb T t), by rw [List.length_set, R.len], fun j t w e1 e2 => ?_, R.hdn, R.own, fun j b q => ?_, fun j b q h => ?_, R.inj, fun p hp => Dv.le g.le _ _ (R.ps p hp)⟩, g⟩
  · rcases R.own i a ho with h | h
    · exact R.ex.trans (x.mono fun b hb => by rw [List.mem_singleton.mp hb]; exact h)
    · exact (R.ex.mono (D := a :: F.C) (fun b hb => List.mem_cons_of_mem _ hb)).trans (x.mono fun b hb => by rw [List.mem_singleton.mp hb]; exact List.mem_cons_self) |>.less fun b hb => by
        rcases List.mem_cons.mp hb with rfl | hb
        · exact .inr h
        · exact .inl hb
  · rcases get_set e1 with ⟨rfl, rfl, _⟩ | ⟨n, e1⟩
    · obtain ⟨v, hv, b, us, rfl, hb, _⟩ := R.slot e
      rw [ho] at hb
      cases hb
      rw [e2] at hv
      cases hv
      exact ⟨a, ws, rfl, ho, upd_same, DvA.le g.le _ _ hd⟩
    · exact (R.sl j t w e1 e2).mono g.le rfl fun b hb => upd_ne fun z => n (R.inj i j a ho (by rw [← z]; exact hb))
  · by_cases z : i = j
    · subst z
      exact .inl ⟨ys, List.getElem?_set_self (List.getElem?_eq_some_iff.mp e).1⟩
    · rw [List.getElem?_set_ne z]
      exact R.ow j b q
  · obtain ⟨M, k⟩ := R.onh j b q h
    by_cases z : i = j
    · subst z
      rw [e] at k
      cases k
    · exact ⟨M, by rw [List.getElem?_set_ne z]; exact k⟩
/-- a cask was drawn from -/
theorem Rep.drawn (R : Rep Tb F O σ H env) {M M' : Int} {a : Addr} (e : env[i]? = some (.c a M)) (ho : O i = some a) (x : Ex [a] H H') (k : CaskAt H' a M') : Rep Tb F O σ H' (env.set i (.c a M')) ∧ Gr F O H H' := by
  have g : Gr F O H H' := fun b o n q t => x.keep b o (fun z => n (.inr ⟨i, by rw [List.mem_singleton.mp z]; exact ho⟩)) q t
  refine ⟨⟨?_, fun T t => x.tab T (R.tb T t), by rw [List.length_set, R.len], fun j t w e1 e2 => ?_, R.hdn, R.own, fun j b q => ?_, fun j b q h => ?_, R.inj, fun p hp => Dv.le g.le _ _ (R.ps p hp)⟩, g⟩
  · rcases R.own i a ho with h | h
    · exact R.ex.trans (x.mono fun b hb => by rw [List.mem_singleton.mp hb]; exact h)
    · exact (R.ex.mono (D := a :: F.C) (fun b hb => List.mem_cons_of_mem _ hb)).trans (x.mono fun b hb => by rw [List.mem_singleton.mp hb]; exact List.mem_cons_self) |>.less fun b hb => by
        rcases List.mem_cons.mp hb with rfl | hb
        · exact .inr h
        · exact .inl hb
  · rcases get_set e1 with ⟨rfl, rfl, _⟩ | ⟨n, e1⟩
    · obtain ⟨v, hv, rfl, hb, _⟩ := R.slot e
      rw [e2] at hv
      cases hv
      exact ⟨rfl, ho, k⟩
    · have q := R.sl j t w e1 e2
      cases t with
      | u => trivial
      | d y =>
        obtain ⟨v, rfl, h⟩ := q
        exact ⟨v, rfl, Dv.le g.le _ _ h⟩
      | o xs =>
        obtain ⟨b, vs, rfl, h1, h2, h3⟩ := q
        exact ⟨b, vs, rfl, h1, x.at h2 (n1 fun z => n (R.inj i j a ho (by rw [← z]; exact h1))), DvA.le g.le _ _ h3⟩
      | c b M =>
        obtain ⟨rfl, h1, h2⟩ := q
        exact ⟨rfl, h1, h2.ex x (n1 fun z => n (R.inj i j a ho (by rw [← z]; exact h1)))⟩
      | r v => exact q
      | x b ts => exact ⟨q.1, fun p hp => ⟨(q.2 p hp).1, g _ _ (q.2 p hp).1 (q.2 p hp).2.1 (q.2 p hp).2.2, (q.2 p hp).2.2⟩⟩
  · by_cases z : i = j
    · subst z
      rw [ho] at q
      cases q
      exact .inr ⟨M', List.getElem?_set_self (List.getElem?_eq_some_iff.mp e).1⟩
    · rw [List.getElem?_set_ne z]
      exact R.ow j b q
  · obtain ⟨N, k⟩ := R.onh j b q h
    by_cases z : i = j
    · subst z
      rw [ho] at q
      cases q
      exact ⟨M', List.getElem?_set_self (List.getElem?_eq_some_iff.mp e).1⟩
    · exact ⟨N, by rw [List.getElem?_set_ne z]; exact k⟩
def own1 (O : Ow) (i : Nat) (p : Addr) : Ow := fun j => if i = j then some p else O j
/-- a new list of a slot's own -/
theorem Rep.make (R : Rep Tb F O σ H env) {xs : List PyData} {vs : List V} {p : Addr} (hi : i < env.length) (hp : H p = none) (hd : DvA (vw F O H) vs xs) : Rep Tb F (own1 O i p) (σ.set i (some (.ref p))) (upd H p (.lst vs)) (env.set i (.o xs)) := by
  have x : Ex [] H (upd H p (.lst vs)) := Ex.new hp
  have l : Le (vw F O H) (vw F (own1 O i p) (upd H p (.lst vs))) := fun a o e _ => by
    obtain ⟨n, e⟩ := hide_some e
    have np := ne_of_none e hp
    refine hide_of (fun z => n ?_) (by rw [upd_ne np]; exact e)
    rcases z with z | ⟨j, z⟩
    · exact .inl z
    · unfold own1 at z
      split at z
      · exact absurd (Option.some.inj z).symm np
      · exact .inr ⟨j, z⟩
  have np : ∀ j a, O j = some a → a ≠ p := fun j a e => by
    obtain ⟨ws, h⟩ := R.there e
    exact ne_of_none h hp
  have h0 : F.H0 p = none := R.ex.there p hp
  refine ⟨R.ex.trans x.up, fun T t => x.tab T (R.tb T t), by rw [List.length_set, List.length_set, R.len], fun j t w e1 e2 => ?_, R.hdn, fun j a e => ?_, fun j a e => ?_, fun j a e hh => ?_, fun j k a e1 e2 => ?_, fun q hq => Dv.le l _ _ (R.ps q hq)⟩
  · rcases get_set e1 with ⟨rfl, rfl, _⟩ | ⟨n, e1⟩
    · rcases get_set e2 with ⟨_, rfl, _⟩ | ⟨n, _⟩
      · exact ⟨p, vs, rfl, if_pos rfl, upd_same, DvA.le l _ _ hd⟩
      · exact absurd rfl n
    · rcases get_set e2 with ⟨z, _⟩ | ⟨_, e2⟩
      · exact absurd z n
      · exact (R.sl j t w e1 e2).mono l (if_neg n) fun a ha => upd_ne (np j a ha)
  · unfold own1 at e
    split at e
    · cases e
      exact .inr h0
    · exact R.own j a e
  · unfold own1 at e
    split at e
    · rename_i z
      subst z
      exact .inl ⟨xs, List.getElem?_set_self hi⟩
    · rename_i z
      rw [List.getElem?_set_ne z]
      exact R.ow j a e
  · unfold own1 at e
    split at e
    · cases e
      exact absurd h0 (R.hdn p hh)
    · rename_i z
      rw [List.getElem?_set_ne z]
      exact R.onh j a e hh
  · unfold own1 at e1 e2
    split at e1 <;> split at e2
    · rename_i z1 z2
      exact z1.symm.trans z2
    · cases e1
      exact absurd rfl (np k p e2)
    · cases e2
      exact absurd rfl (np j p e1)
    · exact R.inj j k a e1 e2
/-- more, fewer, that stays -/
theorem Rep.more (R : Rep Tb F O σ H env) {ps : List (V × PyData)} (h : ∀ p ∈ ps, Dv (vw F O H) p.1 p.2) : Rep Tb { F with ps := ps ++ F.ps } O σ H env :=
  ⟨R.ex, R.tb, R.len, R.sl, R.hdn, R.own, R.ow, R.onh, R.inj, fun p hp => (List.mem_append.mp hp).elim (h p) (R.ps p)⟩
theorem Rep.fewer {ps : List (V × PyData)} (R : Rep Tb { F with ps := ps ++ F.ps } O σ H env) : Rep Tb F O σ H env :=
  ⟨R.ex, R.tb, R.len, R.sl, R.hdn, R.own, R.ow, R.onh, R.inj, fun p hp => R.ps p (List.mem_append_right _ hp)⟩
end
end Sp
end

section
set_option maxHeartbeats 1000000
/-! Calls of own functions, statements, loops, by their data. -/
namespace Sp
open PySem PySem.Spec PyProof.Rows L2
/-! ### promises by data -/
/-- what a function without effects promises, by its data -/
abbrev Fc := List PyData → (PyData → Prop) → Prop
def spD (Tb : List Addr) (f : Fc) : Sp := fun vs H Q _ => ∃ (hd : Addr → Prop) (ds : List PyData) (k : PyData → Prop), (∀ a, hd a → H a ≠ none) ∧ DvA (hide hd H) vs ds ∧ (∀ T ∈ Tb, GxR.TabG H T) ∧ f ds k ∧
  ∀ v r H', Ex [] H H' → Dv (hide hd H') v r → k r → Q v H'
/-- of one that draws from a cask, its first argument -/
abbrev FcC := Int → List PyData → (PyData → Int → Prop) → Prop
def spC (Tb : List Addr) (f : FcC) : Sp := fun vs H Q _ => ∃ (hd : Addr → Prop) (c : Addr) (ws : List V) (M : Int) (ds : List PyData) (k : PyData → Int → Prop), vs = .ref c :: ws ∧ (∀ a, hd a → H a ≠ none) ∧ hd c ∧ CaskAt H c M ∧ DvA (hide hd H) ws ds ∧ (∀ T ∈ Tb, GxR.TabG H T) ∧ f M ds k ∧
  ∀ v r M' H', Ex [c] H H' → CaskAt H' c M' → Dv (hide hd H') v r → k r M' → Q v H'
section
variable {X : Cx} {Tb : List Addr} {a b c e : Expr} {fa fb fc fe : VF} {pos : Pos} {es : List Expr} {fs : VA}
def vFn (f : Fc) (fs : VA) : VF := fun env k => fs env fun ws e1 => vDs (fun ds => f ds fun r => k (.d r) e1) (dsOf ws)
theorem Rep.hidS {F : Fr} {O : Ow} {σ : L2.St} {H : Hp} {env : En} (R : Rep Tb F O σ H env) : ∀ a, hid F O a → H a ≠ none := fun a h z => R.fresh z h
theorem ve_fn {f : Fc} (h : PE X e (tCall (spD Tb f) [] E0 (cA Tb fs))) : VE X Tb e (vFn f fs) :=
  PE.imp h fun σ H Q ⟨F, O, env, k, R, h, q⟩ => ⟨F, O, env, _, R, h, fun ws e1 vs H1 R1 r1 g1 h1 => by
    obtain ⟨ds, ed, h1⟩ := vDs_of h1
    refine ⟨hid F O, ds, _, R1.hidS, by rw [List.append_nil]; exact dsOf_dv r1 ed, R1.tb, h1, fun v r H2 x d h2 => ?_⟩
    obtain ⟨R2, g2⟩ := R1.grow x
    exact q (.d r) e1 v H2 R2 d (g1.trans g2) h2⟩
/-- own lists handed in, and nothing but a number, a truth, a text or None told -/
def flatD : PyData → Bool
  | .list _ => false
  | .tuple _ => false
  | .dict _ => false
  | _ => true
def vFnT (f : Fc) (fs : VA) : VF := fun env k => fs env fun ws e1 => vDs (fun ds => f ds fun r => flatD r = true ∧ k (.d r) e1) (lks e1 ws)
theorem DlA.dv {G H : Hp} (l : Le G H) : ∀ {vs : List V} {xs : List PyData}, DlA G H vs xs → DvA H vs xs
  | _, _, .nil => .nil
  | _, _, .cons a b => .cons (a.dv l) (b.dv l)
theorem flat_dv {G G' : Hp} {v : V} {r : PyData} (h : flatD r = true) (d : Dv G v r) : Dv G' v r := by
  cases d with
  | non => exact .non
  | bl b => exact .bl b
  | int i => exact .int i
  | str z => exact .str z
  | lst _ _ => cases h
  | tup _ _ => cases h
  | dic _ _ => cases h
theorem hide_F {H : Hp} : hide (fun _ => False) H = H := by
  funext a
  unfold hide
  rw [if_neg id]
theorem ve_fnT {f : Fc} (h : PE X e (tCall (spD Tb f) [] E0 (cA Tb fs))) : VE X Tb e (vFnT f fs) :=
  PE.imp h fun σ H Q ⟨F, O, env, k, R, h, q⟩ => ⟨F, O, env, _, R, h, fun ws e1 vs H1 R1 r1 g1 h1 => by
    obtain ⟨ds, ed, h1⟩ := vDs_of h1
    refine ⟨fun _ => False, ds, _, fun _ z => z.elim, by rw [List.append_nil, hide_F]; exact DlA.dv view_vw.toLe (lks_dl R1 r1 ed), R1.tb, h1, fun v r H2 x d h2 => ?_⟩
    obtain ⟨R2, g2⟩ := R1.grow x
    exact q (.d r) e1 v H2 R2 (flat_dv h2.1 d) (g1.trans g2) h2.2⟩
def vFnC (f : FcC) (fs : VA) : VF := fun env k => fs env fun ws e1 => match ws with
  | .own i :: ws => (match e1[i]? with
    | some (.c a M) => vDs (fun ds => f M ds fun r M' => k (.d r) (e1.set i (.c a M'))) (dsOf ws)
    | _ => False)
  | _ => False
theorem ve_fnC {f : FcC} (h : PE X e (tCall (spC Tb f) [] E0 (cA Tb fs))) : VE X Tb e (vFnC f fs) :=
  PE.imp h fun σ H Q ⟨F, O, env, k, R, h, q⟩ => ⟨F, O, env, _, R, h, fun ws e1 vs H1 R1 r1 g1 h1 => by
    split at h1
    · rename_i i ws
      split at h1
      · rename_i a M em
        cases r1 with
        | cons ra rb =>
          obtain ⟨c, rfl, ho⟩ := ra
          obtain ⟨ds, ed, h1⟩ := vDs_of h1
          obtain ⟨v, _, _, ho', kc⟩ := R1.slot em
          rw [ho] at ho'
          cases ho'
          refine ⟨hid F O, a, _, M, ds, _, by rw [List.append_nil], R1.hidS, .inr ⟨i, ho⟩, kc, dsOf_dv rb ed, R1.tb, h1, fun v r M' H2 x k2 d h2 => ?_⟩
          obtain ⟨R2, g2⟩ := R1.drawn em ho x k2
          exact q (.d r) _ v H2 R2 d (g1.trans g2) h2
      · exact h1.elim
    · exact h1.elim⟩
/-! ### targets -/
abbrev VB := PyData → En → (En → Prop) → Prop
abbrev VBs := List PyData → En → (En → Prop) → Prop
def cG (Tb : List Addr) (sl : List Nat) (b : VB) : TG := fun v σ H Q => ∃ F O env x k, Rep Tb F O σ H env ∧ Dv (vw F O H) v x ∧ b x env k ∧ ∀ σ' env', Rep Tb F (clr O sl) σ' H env' → wipe σ' sl = wipe σ sl → k env' → Q σ' H
def cGs (Tb : List Addr) (sl : List Nat) (b : VBs) : TGs := fun vs σ H Q => ∃ F O env xs k, Rep Tb F O σ H env ∧ DvA (vw F O H) vs xs ∧ b xs env k ∧ ∀ σ' env', Rep Tb F (clr O sl) σ' H env' → wipe σ' sl = wipe σ sl → k env' → Q σ' H
theorem PG.imp {t u : TG} (h : PG X e t) (i : ∀ v σ H Q, u v σ H Q → t v σ H Q) : PG X e u := ⟨fun pins s σ H v w Q I r q => h.run pins s σ H v w Q I r (i _ _ _ _ q)⟩
theorem PGs.imp {t u : TGs} (h : PGs X es t) (i : ∀ v σ H Q, u v σ H Q → t v σ H Q) : PGs X es u := ⟨fun pins s σ H v w Q I r q => h.run pins s σ H v w Q I r (i _ _ _ _ q)⟩
def bName (i : Nat) : VB := fun x env k => i < env.length ∧ k (env.set i (.d x))
theorem wipe_set {σ : L2.St} {i : Nat} {v : Option V} : ∀ {sl : List Nat}, i ∈ sl → wipe (σ.set i v) sl = wipe σ sl
  | j :: sl, h => by
    by_cases hm : i ∈ sl
    · unfold wipe
      rw [wipe_set hm]
    · have e : i = j := (List.mem_cons.mp h).resolve_right hm
      subst e
      have go : ∀ l : List Nat, i ∉ l → wipe (σ.set i v) l = (wipe σ l).set i v := fun l => by
        induction l with
        | nil => intro _; rfl
        | cons j l ih =>
          intro h
          unfold wipe
          rw [ih fun z => h (List.mem_cons_of_mem _ z), List.set_comm]
          exact fun z => h (by simp [z])
      unfold wipe
      rw [go sl hm, List.set_set]
theorem vg_name {i : Nat} (h : PG X e (gName i)) : PG X e (cG Tb [i] (bName i)) :=
  PG.imp h fun v σ H Q ⟨F, O, env, x, k, R, d, b, q⟩ => q _ _ (R.putD b.1 d) (wipe_set (by simp)) b.2
def bNil : VBs := fun xs env k => xs = [] ∧ k env
def bCons (b : VB) (bs : VBs) : VBs := fun xs env k => match xs with
  | x :: xs => b x env fun e => bs xs e k
  | [] => False
theorem vgs_nil : PGs X [] (cGs Tb [] bNil) :=
  PGs.imp pgs_nil fun v σ H Q ⟨F, O, env, xs, k, R, d, b, q⟩ => by
    obtain ⟨rfl, b⟩ := b
    cases d
    exact ⟨rfl, q σ env (by rw [clr_nil]; exact R) rfl b⟩
theorem wipe_app {σ : L2.St} : ∀ {s t : List Nat}, wipe σ (s ++ t) = wipe (wipe σ t) s
  | [], _ => rfl
  | j :: s, t => by
    show (wipe σ (s ++ t)).set j none = _
    rw [wipe_app]
    rfl
theorem wipe_comm {σ : L2.St} : ∀ {s t : List Nat}, wipe (wipe σ t) s = wipe (wipe σ s) t
  | s, [] => rfl
  | s, j :: t => by
    have go : ∀ (l : List Nat) (τ : L2.St), wipe (τ.set j none) l = (wipe τ l).set j none := fun l => by
      induction l with
      | nil => intro _; rfl
      | cons i l ih =>
        intro τ
        show (wipe (τ.set j none) l).set i none = ((wipe τ l).set i none).set j none
        rw [ih]
        by_cases e : j = i
        · subst e
          rfl
        · rw [List.set_comm _ _ e]
    show wipe ((wipe σ t).set j none) s = (wipe (wipe σ s) t).set j none
    rw [go, wipe_comm]
theorem vgs_cons {s t : List Nat} {b : VB} {bs : VBs} (h1 : PG X e (cG Tb s b)) (h2 : PGs X es (cGs Tb t bs)) (hs : (assignEach (e :: es) X.env).map (·.2) = assign e X.env :: (assignEach es X.env).map (·.2) := by rfl) : PGs X (e :: es) (cGs Tb (s ++ t) (bCons b bs)) :=
  PGs.imp (pgs_cons h1 h2 hs) fun v σ H Q ⟨F, O, env, xs, k, R, d, b, q⟩ => by
    cases d with
    | nil => exact b.elim
    | cons d1 d2 =>
      refine ⟨_, _, rfl, F, O, env, _, _, R, d1, b, fun σ1 e1 R1 w1 h1 => ⟨F, _, e1, _, _, R1, DvA.le vw_clr _ _ d2, h1, fun σ2 e2 R2 w2 h2 => ?_⟩⟩
      rw [clr_clr] at R2
      refine q σ2 e2 R2 ?_ h2
      rw [wipe_app, w2, wipe_comm, w1, wipe_comm, ← wipe_app]
def bTup (n : Nat) (b : VBs) : VB := fun x env k => match x with
  | .tuple xs => xs.length = n ∧ b xs env k
  | _ => False
theorem vg_tup {kk : Nat} {sl : List Nat} {b : VBs} {n : Nat} (hc : X.calm = true) (h : PGs X es (cGs Tb sl b)) (hn : (assignEach es X.env).length = n := by rfl) (hst : (assignEach es X.env).findIdx? (·.1) = none := by rfl) :
    PG X (.Tuple es kk pos) (cG Tb sl (bTup n b)) :=
  PG.imp (pg_tup hc h hn hst) fun v σ H Q ⟨F, O, env, x, k, R, d, b, q⟩ => by
    unfold bTup at b
    split at b
    · cases d with
      | tup e1 d1 => exact ⟨_, _, rfl, sqt (hide_some e1).2, by rw [d1.len]; exact b.1, F, O, env, _, k, R, d1, b.2, q⟩
    · exact b.elim
/-! ### blocks -/
variable {st : Stmt} {rest : List Stmt} {g1 g2 : VG}
theorem vss_nil : VSs X Tb [] (fun E env => E.nx env) := PSs.imp pss_nil fun D σ H ⟨F, O, env, E, R, h, C⟩ => C.nx _ _ _ _ R h
/-- what follows, not yet looked at -/
def Go (g : VG) (E : VEnds) (e : En) : Prop := g E e
theorem go {g : VG} {E : VEnds} {e : En} (h : g E e) : Go g E e := h
def vSeq (g1 g2 : VG) : VG := fun E env => g1 { E with nx := Go g2 E } env
theorem vss_cons (h1 : VS X Tb st g1) (h2 : VSs X Tb rest g2) : VSs X Tb (st :: rest) (vSeq g1 g2) :=
  PSs.imp (pss_cons h1 h2) fun D σ H ⟨F, O, env, E, R, h, C⟩ => ⟨F, O, env, _, R, h, ⟨fun O σ H env R h => ⟨F, O, env, E, R, h, C⟩, C.rt, C.bk, C.ct, C.ro⟩⟩
theorem vss_one (h1 : VS X Tb st g1) : VSs X Tb [st] g1 := pss_one h1
/-- an own list becomes a datum ahead of what follows -/
def vFrz (i : Nat) (g : VG) : VG := fun E env => match env[i]? with
  | some (.o xs) => g E (env.set i (.d (.list xs)))
  | _ => g E env
theorem vss_frz {sts : List Stmt} (i : Nat) (h : VSs X Tb sts g1) : VSs X Tb sts (vFrz i g1) :=
  PSs.imp h fun D σ H ⟨F, O, env, E, R, h, C⟩ => by
    unfold vFrz at h
    split at h
    · rename_i xs e
      exact ⟨F, _, _, E, R.frz e, h, C⟩
    · exact ⟨F, O, env, E, R, h, C⟩
def vIfS (t : VT) (g1 g2 : VG) : VG := fun E env => t env fun b e => if b = true then g1 E e else g2 E e
theorem vs_if {t : VT} {sa sb : List Stmt} (hc : VTt X Tb c t) (ha : VSs X Tb sa g1) (hb : VSs X Tb sb g2) : VS X Tb (.If c sa sb pos) (vIfS t g1 g2) :=
  PS.imp (ps_if hc ha hb) fun D σ H ⟨F, O, env, E, R, h, C⟩ => ⟨F, O, env, _, R, h, fun b e1 H1 R1 gr1 h1 => by
    cases b with
    | true =>
      rw [if_pos rfl] at h1 ⊢
      exact ⟨F, O, e1, E, R1, h1, C⟩
    | false =>
      rw [if_neg Bool.false_ne_true] at h1 ⊢
      exact ⟨F, O, e1, E, R1, h1, C⟩⟩
theorem vs_pass : VS X Tb (.Pass pos) (fun E env => E.nx env) := PS.imp ps_pass fun D σ H ⟨F, O, env, E, R, h, C⟩ => C.nx _ _ _ _ R h
theorem vs_break : VS X Tb (.Break pos) (fun E env => E.bk env) := PS.imp ps_break fun D σ H ⟨F, O, env, E, R, h, C⟩ => C.bk _ _ _ _ R h
theorem vs_continue : VS X Tb (.Continue pos) (fun E env => E.ct env) := PS.imp ps_continue fun D σ H ⟨F, O, env, E, R, h, C⟩ => C.ct _ _ _ _ R h
theorem vs_never : VS X Tb st (fun _ _ => False) := PS.imp ps_never fun D σ H ⟨F, O, env, E, R, h, C⟩ => h
theorem vss_never {sts : List Stmt} : VSs X Tb sts (fun _ _ => False) := PSs.imp pss_never fun D σ H ⟨F, O, env, E, R, h, C⟩ => h
/-- an expression's end told: an own list becomes a datum -/
def vTell (k : PyData → En → Prop) : W → En → Prop := fun w e => match w with
  | .d x => k x e
  | .own i => match e[i]? with
    | some (.o xs) => k (.list xs) (e.set i (.d (.list xs)))
    | _ => False
theorem vTell_of {F : Fr} {O : Ow} {σ : L2.St} {H : Hp} {env : En} {v : V} {w : W} {k : PyData → En → Prop} (R : Rep Tb F O σ H env) (r : RW F O H v w) (h : vTell k w env) :
    ∃ sl x env', Rep Tb F (clr O sl) σ H env' ∧ Dv (vw F (clr O sl) H) v x ∧ k x env' := by
  cases w with
  | d x => exact ⟨[], x, env, by rw [clr_nil]; exact R, by rw [clr_nil]; exact r, h⟩
  | own i =>
    unfold vTell at h
    simp only at h
    split at h
    · rename_i xs e
      obtain ⟨a, rfl, ho⟩ := r
      have R2 := R.frz e
      obtain ⟨v, _, b, vs, _, hb, hv, hd⟩ := R.slot e
      rw [ho] at hb
      cases hb
      refine ⟨[i], _, _, R2, ?_, h⟩
      obtain ⟨v2, e2, v3, rfl, d3⟩ := R2.slot (i := i) (s := .d (.list xs)) (List.getElem?_set_self (List.getElem?_eq_some_iff.mp e).1)
      obtain ⟨v4, e4, b4, _, rfl, h4, _⟩ := R.slot e
      rw [ho] at h4
      cases h4
      rw [e4] at e2
      cases e2
      exact d3
    · exact h.elim
def vRet (fa : VF) : VG := fun E env => fa env (vTell E.rt)
theorem vs_ret (ha : VE X Tb a fa) : VS X Tb (.Return (some a) pos) (vRet fa) :=
  PS.imp (ps_ret ha) fun D σ H ⟨F, O, env, E, R, h, C⟩ => ⟨F, O, env, _, R, h, fun w e1 v H1 R1 r1 gr1 h1 => by
    obtain ⟨sl, x, e2, R2, d, h2⟩ := vTell_of R1 r1 h1
    exact C.rt _ _ _ _ _ _ R2 d h2⟩
/-- an own list told as a new one -/
def vRetO (fa : VF) : VG := fun E env => fa env fun w e => match w with
  | .own i => (match e[i]? with
    | some (.o xs) => E.ro (.list xs)
    | _ => False)
  | _ => False
theorem vs_retO (ha : VE X Tb a fa) : VS X Tb (.Return (some a) pos) (vRetO fa) :=
  PS.imp (ps_ret ha) fun D σ H ⟨F, O, env, E, R, h, C⟩ => ⟨F, O, env, _, R, h, fun w e1 v H1 R1 r1 gr1 h1 => by
    cases w with
    | d _ => exact h1.elim
    | own i =>
      dsimp only at h1
      split at h1
      · rename_i xs e
        obtain ⟨a, rfl, ho⟩ := r1
        obtain ⟨v, _, b, vs, _, hb, hv, hd⟩ := R1.slot e
        rw [ho] at hb
        cases hb
        exact C.ro _ _ _ _ i a vs xs R1 ho hv hd h1
      · exact h1.elim⟩
theorem vs_retN : VS X Tb (.Return none pos) (fun E env => E.rt .none env) := PS.imp ps_retN fun D σ H ⟨F, O, env, E, R, h, C⟩ => C.rt _ _ _ _ _ _ R .non h
def vDrop (fa : VF) : VG := fun E env => fa env fun _ e => E.nx e
theorem vs_expr (ha : VE X Tb e fa) (hs : swapsWith e none pos.line X.env = pure false := by rfl) : VS X Tb (.Expr e pos) (vDrop fa) :=
  PS.imp (ps_expr ha hs) fun D σ H ⟨F, O, env, E, R, h, C⟩ => ⟨F, O, env, _, R, h, fun w e1 v H1 R1 r1 gr1 h1 => C.nx _ _ _ _ R1 h1⟩
/-- target = value -/
def vAsg (fa : VF) (b : VB) : VG := fun E env => fa env (vTell fun x e => b x e E.nx)
theorem asg_core {sl : List Nat} {b : VB} {D : Ends} {σ : L2.St} {H : Hp} (h : cS Tb (vAsg fa b) D σ H) : tAsg (cE Tb fa) (cG Tb sl b) D σ H := by
  obtain ⟨F, O, env, E, R, h, C⟩ := h
  refine ⟨F, O, env, _, R, h, fun w e1 v H1 R1 r1 gr1 h1 => ?_⟩
  obtain ⟨s2, x, e2, R2, d, h2⟩ := vTell_of R1 r1 h1
  exact ⟨F, _, e2, x, _, R2, d, h2, fun σ' env' R3 _ h3 => C.nx _ _ _ _ R3 h3⟩
theorem vs_asg {tg : Expr} {sl : List Nat} {b : VB} (ha : VE X Tb e fa) (hg : PG X tg (cG Tb sl b)) (hs : swapsWithSole [tg] e pos.line X.env = pure false := by rfl) (hw : swappedStores [tg] e X.env = pure none := by rfl)
    (h1 : (assignEach [tg] X.env).map (·.2) = [assign tg X.env] := by rfl) : VS X Tb (.Assign [tg] e pos) (vAsg fa b) :=
  PS.imp (ps_asg ha hg hs hw h1) fun D σ H h => asg_core h
theorem vs_set {i : Nat} (h : PS X st (tAsg (cE Tb fa) (gName i))) : VS X Tb st (vAsg fa (bName i)) :=
  PS.imp h fun D σ H ⟨F, O, env, E, R, h, C⟩ => ⟨F, O, env, _, R, h, fun w e1 v H1 R1 r1 gr1 h1 => by
    obtain ⟨s2, x, e2, R2, d, h2⟩ := vTell_of R1 r1 h1
    exact C.nx _ _ _ _ (R2.putD h2.1 d) h2.2⟩
/-- name = [..]: an own list -/
def vOwn (i : Nat) (fs : VA) : VG := fun E env => fs env fun ws e => vDs (fun ds => ds.length ≤ sizeLine ∧ i < e.length ∧ E.nx (e.set i (.o ds))) (dsOf ws)
theorem vs_own {i : Nat} (h : PS X st (tAsg (tLst (cA Tb fs)) (gName i))) : VS X Tb st (vOwn i fs) :=
  PS.imp h fun D σ H ⟨F, O, env, E, R, h, C⟩ => ⟨F, O, env, _, R, h, fun ws e1 vs H1 R1 r1 gr1 h1 => by
    obtain ⟨ds, ed, h1⟩ := vDs_of h1
    have d := dsOf_dv r1 ed
    exact ⟨by rw [d.len]; exact h1.1, fun p hp => C.nx _ _ _ _ (R1.make h1.2.1 hp d) h1.2.2⟩⟩
/-- a, b = x, y -/
def vPar (i j : Nat) (fs : VA) : VG := fun E env => fs env fun ws e => match dsOf ws with
  | some [x, y] => i < e.length ∧ j < e.length ∧ E.nx ((e.set i (.d x)).set j (.d y))
  | _ => False
theorem vs_par {i j : Nat} (h : PS X st (tPar i j (cA Tb fs))) : VS X Tb st (vPar i j fs) :=
  PS.imp h fun D σ H ⟨F, O, env, E, R, h, C⟩ => ⟨F, O, env, _, R, h, fun ws e1 vs H1 R1 r1 gr1 h1 => by
    split at h1
    · rename_i x y ed
      have d := dsOf_dv r1 ed
      cases d with
      | cons d1 d2 =>
        cases d2 with
        | cons d2 d3 =>
          cases d3
          refine ⟨_, _, rfl, ?_⟩
          have R2 := R1.putD h1.1 d1
          have R3 := R2.putD (i := j) (by rw [List.length_set]; exact h1.2.1) (Dv.le vw_clr _ _ d2)
          exact C.nx _ _ _ _ R3 h1.2.2
    · exact h1.elim⟩
/-- name += int, name -= int -/
def vAug (i : Nat) (f : Int → Int → Int) (fa : VF) : VG := fun E env => match env[i]? with
  | some (.d (.int x)) => fa env fun w e => match w with
    | .d (.int y) => i < e.length ∧ E.nx (e.set i (.d (.int (f x y))))
    | _ => False
  | _ => False
theorem vs_aug {i : Nat} {f : Int → Int → Int} (h : PS X st (tAug i (cE Tb fa) (ipI f))) : VS X Tb st (vAug i f fa) :=
  PS.imp h fun D σ H ⟨F, O, env, E, R, h, C⟩ => by
    unfold vAug at h
    split at h
    · rename_i x ex
      obtain ⟨v, hv, v', rfl, d⟩ := R.slot ex
      cases d
      refine ⟨_, hv, F, O, env, _, R, h, fun w e1 v H1 R1 r1 gr1 h1 => ?_⟩
      cases w with
      | own _ => exact h1.elim
      | d y =>
        cases y with
        | int y =>
          cases r1
          exact ⟨x, y, rfl, rfl, C.nx _ _ _ _ (R1.putD h1.1 (.int _)) h1.2⟩
        | _ => exact h1.elim
    · exact h.elim
/-! ### an own list changed -/
def wOwn (k : Nat → List PyData → En → Prop) : W → En → Prop := fun w e => match w with
  | .own i => (match e[i]? with
    | some (.o xs) => k i xs e
    | _ => False)
  | _ => False
theorem wOwn_of {F : Fr} {O : Ow} {σ : L2.St} {H : Hp} {env : En} {v : V} {w : W} {k : Nat → List PyData → En → Prop} (R : Rep Tb F O σ H env) (r : RW F O H v w) (h : wOwn k w env) :
    ∃ i a vs xs, v = .ref a ∧ env[i]? = some (.o xs) ∧ O i = some a ∧ H a = some (.lst vs) ∧ DvA (vw F O H) vs xs ∧ k i xs env ∧ w = .own i := by
  cases w with
  | d x => exact h.elim
  | own i =>
    unfold wOwn at h
    simp only at h
    split at h
    · rename_i xs e
      obtain ⟨a, rfl, ho⟩ := r
      obtain ⟨v, _, b, vs, _, hb, hv, hd⟩ := R.slot e
      rw [ho] at hb
      cases hb
      exact ⟨i, a, vs, xs, rfl, e, ho, hv, hd, h, rfl⟩
    · exact h.elim
theorem ty_list {K : PySem.W.Frag} {H : Hp} {a : Addr} {vs : List V} (h : H a = some (.lst vs)) : tyV K "list" (.ref a) H := Or.inl ⟨rfl, _, Or.inl (Or.inl h)⟩
/-- xs.append(x) -/
def vApp (i : Nat) (fs : VA) : VF := fun env k => match env[i]? with
  | some (.o _) => fs env fun ws e => (match dsOf ws, e[i]? with
    | some [x], some (.o xs) => xs.length < sizeLine ∧ k (.d .none) (e.set i (.o (xs ++ [x])))
    | _, _ => False)
  | _ => False
theorem ve_app {i : Nat} (h : PE X e (tBM X.K "list" rAppend (tVar i) (cA Tb fs))) : VE X Tb e (vApp i fs) :=
  PE.imp h fun σ H Q ⟨F, O, env, k, R, h, q⟩ => by
    unfold vApp at h
    split at h
    · rename_i zs ez
      obtain ⟨v, hv, a, vs, rfl, ho, ha, _⟩ := R.slot ez
      refine ⟨_, hv, ty_list ha, F, O, env, _, R, h, fun ws e1 us H1 R1 r1 gr1 h1 => ?_⟩
      split at h1
      · rename_i x xs ed ex
        have d := dsOf_dv r1 ed
        cases d with
        | cons d1 d2 =>
          cases d2
          obtain ⟨v2, hv2, b, vs, rfl, hb, hl, dl⟩ := R1.slot ex
          rw [ho] at hb
          cases hb
          refine ⟨a, vs, _, rfl, rfl, hl, by rw [dl.len]; exact h1.1, ?_⟩
          obtain ⟨R2, g2⟩ := R1.write ex ho hl (dl.app (.cons d1 .nil))
          exact q (.d .none) _ _ _ R2 .non (gr1.trans g2) h1.2
      · exact h1.elim
    · exact h.elim
/-- xs.pop() -/
def vPop (i : Nat) : VF := fun env k => match env[i]? with
  | some (.o xs) => ∃ x, xs[xs.length - 1]? = some x ∧ k (.d x) (env.set i (.o xs.dropLast))
  | _ => False
theorem DvA.dropLast {G : Hp} {vs : List V} {ds : List PyData} (h : DvA G vs ds) : DvA G vs.dropLast ds.dropLast := by
  rw [List.dropLast_eq_take, List.dropLast_eq_take, h.len]
  exact h.take _
theorem ve_pop {i : Nat} (h : PE X e (tBM0 X.K "list" rPop (tVar i))) : VE X Tb e (vPop i) :=
  PE.imp h fun σ H Q ⟨F, O, env, k, R, h, q⟩ => by
    unfold vPop at h
    split at h
    · rename_i xs ez
      obtain ⟨v, hv, a, vs, rfl, ho, ha, dl⟩ := R.slot ez
      obtain ⟨x, hx, h⟩ := h
      obtain ⟨w, hw, dw⟩ := dl.get hx
      refine ⟨_, hv, ty_list ha, a, vs, w, rfl, rfl, ha, by rw [dl.len]; exact hw, ?_⟩
      obtain ⟨R2, g2⟩ := R.write ez ho ha dl.dropLast
      exact q (.d x) _ _ _ R2 (Dv.le g2.le _ _ dw) g2 h
    · exact h.elim
/-- xs.reverse() -/
def vRevM (i : Nat) : VF := fun env k => match env[i]? with
  | some (.o xs) => k (.d .none) (env.set i (.o xs.reverse))
  | _ => False
theorem ve_reverse {i : Nat} (h : PE X e (tBM0 X.K "list" rReverse (tVar i))) : VE X Tb e (vRevM i) :=
  PE.imp h fun σ H Q ⟨F, O, env, k, R, h, q⟩ => by
    unfold vRevM at h
    split at h
    · rename_i xs ez
      obtain ⟨v, hv, a, vs, rfl, ho, ha, dl⟩ := R.slot ez
      refine ⟨_, hv, ty_list ha, a, vs, rfl, rfl, ha, ?_⟩
      obtain ⟨R2, g2⟩ := R.write ez ho ha dl.rev
      exact q (.d .none) _ _ _ R2 .non g2 h
    · exact h.elim
/-- xs.extend(ys) -/
def vExt (i : Nat) (fs : VA) : VF := fun env k => match env[i]? with
  | some (.o _) => fs env fun ws e => (match dsOf ws, e[i]? with
    | some [.list ys], some (.o xs) => xs.length + ys.length ≤ sizeLine ∧ k (.d .none) (e.set i (.o (xs ++ ys)))
    | _, _ => False)
  | _ => False
theorem ve_extend {i : Nat} (h : PE X e (tBM X.K "list" rExtend (tVar i) (cA Tb fs))) : VE X Tb e (vExt i fs) :=
  PE.imp h fun σ H Q ⟨F, O, env, k, R, h, q⟩ => by
    unfold vExt at h
    split at h
    · rename_i zs ez
      obtain ⟨v, hv, a, vs, rfl, ho, ha, _⟩ := R.slot ez
      refine ⟨_, hv, ty_list ha, F, O, env, _, R, h, fun ws e1 us H1 R1 r1 gr1 h1 => ?_⟩
      split at h1
      · rename_i ys xs ed ex
        have d := dsOf_dv r1 ed
        cases d with
        | cons d1 d2 =>
          cases d2
          cases d1 with
          | @lst b zs _ hb dz =>
            obtain ⟨v2, hv2, b', vs, rfl, hb', hl, dl⟩ := R1.slot ex
            rw [ho] at hb'
            cases hb'
            refine ⟨a, b, vs, zs, rfl, rfl, hl, (hide_some hb).2, by rw [dl.len, dz.len]; exact h1.1, ?_⟩
            obtain ⟨R2, g2⟩ := R1.write ex ho hl (dl.app dz)
            exact q (.d .none) _ _ _ R2 .non (gr1.trans g2) h1.2
      · exact h1.elim
    · exact h.elim
/-- xs[k] = x -/
def vPut (i : Nat) (fa fi : VF) : VG := fun E env => fa env fun w e => match w with
  | .d x => (match e[i]? with
    | some (.o _) => fi e fun w2 e2 => (match w2, e2[i]? with
      | .d (.int n), some (.o xs) => ∃ j, ixN xs.length n = some j ∧ E.nx (e2.set i (.o (xs.set j x)))
      | _, _ => False)
    | _ => False)
  | _ => False
theorem vs_put {i : Nat} {fi : VF} (h : PS X st (tAsg (cE Tb fa) (gSub (tVar i) (cE Tb fi) rSetL))) : VS X Tb st (vPut i fa fi) :=
  PS.imp h fun D σ H ⟨F, O, env, E, R, h, C⟩ => ⟨F, O, env, _, R, h, fun w e1 v H1 R1 r1 gr1 h1 => by
    cases w with
    | own _ => exact h1.elim
    | d x =>
      simp only at h1
      split at h1
      · rename_i zs ez
        obtain ⟨u, hu, a, vs, rfl, ho, ha, _⟩ := R1.slot ez
        refine ⟨_, hu, F, O, e1, _, R1, h1, fun w2 e2 v2 H2 R2 r2 gr2 h2 => ?_⟩
        split at h2
        · rename_i n xs ex
          cases r2
          obtain ⟨j, hj, h2⟩ := h2
          obtain ⟨_, _, b, ws, rfl, hb, hl, dl⟩ := R2.slot ex
          rw [ho] at hb
          cases hb
          refine ⟨a, ws, n, j, rfl, rfl, hl, by rw [dl.len]; exact hj, ?_⟩
          obtain ⟨R3, g3⟩ := R2.write ex ho hl (dl.set (Dv.le gr2.le _ _ r1) j)
          exact C.nx _ _ _ _ R3 h2
        · exact h2.elim
      · exact h1.elim⟩
/-! ### what is walked -/
/-- at each turn a datum -/
def ItOk (ps : List (V × PyData)) (J : It) (n : Nat) (it : Nat → Option PyData) : Prop :=
  (∀ i, i < n → ∃ d, it i = some d) ∧ ∀ (G H : Hp), View G H → (∀ p ∈ ps, Dv G p.1 p.2) → ∀ i, (∀ d, i < n → it i = some d → J.go i H ∧ ∀ x H', J.yld i H x H' → Res G H x d H') ∧ (n ≤ i → J.stop i H)
abbrev VIt := En → (Nat → (Nat → Option PyData) → En → Prop) → Prop
def cI (Tb : List Addr) (f : VIt) : TI := fun σ H R => ∃ F O env k, Rep Tb F O σ H env ∧ f env k ∧ ∀ n it env' J H' ps, Rep Tb F O σ H' env' → (∀ p ∈ ps, Dv (vw F O H') p.1 p.2) → ItOk ps J n it → Gr F O H H' → k n it env' → R J H'
theorem PI.imp {tg iter : Expr} {t u : TI} (h : PI X tg iter t) (i : ∀ σ H R, u σ H R → t σ H R) : PI X tg iter u := ⟨fun pins s σ H R I q => h.run pins s σ H R I (i _ _ _ q)⟩
def iL (fa : VF) : VIt := fun env k => fa env fun w e => match w with
  | .d (.list xs) => k xs.length (fun i => xs[i]?) e
  | _ => False
theorem itok_list {K : PySem.W.Frag} {a : Addr} {xs : List PyData} : ItOk [(.ref a, .list xs)] (Itl K a) xs.length (fun i => xs[i]?) := by
  refine ⟨fun i hi => ⟨_, List.getElem?_eq_getElem hi⟩, fun G H w h i => ?_⟩
  have d := h (.ref a, .list xs) (by simp)
  cases d with
  | @lst _ vs _ e dv =>
    have eH := w.le _ _ e
    refine ⟨fun d hi hd => ?_, fun hi => ⟨vs, sq eH, by rw [dv.len]; exact hi⟩⟩
    obtain ⟨v, hv, dd⟩ := dv.get hd
    refine ⟨⟨vs, v, sq eH, hv⟩, fun x H' y => ?_⟩
    obtain ⟨rfl, y⟩ := y
    have q := y vs (sq eH)
    rw [hv] at q
    cases q
    exact .inl ⟨rfl, dd⟩
theorem vi_list {tg iter : Expr} (h : VE X Tb iter fa) : PI X tg iter (cI Tb (iL fa)) :=
  PI.imp (pi_list h) fun σ H R ⟨F, O, env, k, Rp, h, q⟩ => ⟨F, O, env, _, Rp, h, fun w e1 v H1 R1 r1 gr1 h1 => by
    cases w with
    | own _ => exact h1.elim
    | d x =>
      cases x with
      | list xs =>
        have d : Dv (vw F O H1) v (.list xs) := r1
        cases d with
        | @lst a vs _ ea dv =>
          exact ⟨a, rfl, ⟨vs, sq (hide_some ea).2⟩, q _ _ e1 _ H1 [(.ref a, .list xs)] R1 (fun p hp => by rw [List.mem_singleton.mp hp]; exact .lst ea dv) itok_list gr1 h1⟩
      | _ => exact h1.elim⟩
def iT (fa : VF) : VIt := fun env k => fa env fun w e => match w with
  | .d (.tuple xs) => k xs.length (fun i => xs[i]?) e
  | _ => False
theorem itok_tup {K : PySem.W.Frag} {a : Addr} {xs : List PyData} : ItOk [(.ref a, .tuple xs)] (Itt K a) xs.length (fun i => xs[i]?) := by
  refine ⟨fun i hi => ⟨_, List.getElem?_eq_getElem hi⟩, fun G H w h i => ?_⟩
  have d := h (.ref a, .tuple xs) (by simp)
  cases d with
  | @tup _ vs _ e dv =>
    have eH := w.le _ _ e
    refine ⟨fun d hi hd => ?_, fun hi => ⟨vs, sqt eH, by rw [dv.len]; exact hi⟩⟩
    obtain ⟨v, hv, dd⟩ := dv.get hd
    refine ⟨⟨vs, v, sqt eH, hv⟩, fun x H' y => ?_⟩
    obtain ⟨rfl, y⟩ := y
    have q := y vs (sqt eH)
    rw [hv] at q
    cases q
    exact .inl ⟨rfl, dd⟩
theorem vi_tup {tg iter : Expr} (h : VE X Tb iter fa) : PI X tg iter (cI Tb (iT fa)) :=
  PI.imp (pi_tup h) fun σ H R ⟨F, O, env, k, Rp, h, q⟩ => ⟨F, O, env, _, Rp, h, fun w e1 v H1 R1 r1 gr1 h1 => by
    cases w with
    | own _ => exact h1.elim
    | d x =>
      cases x with
      | tuple xs =>
        have d : Dv (vw F O H1) v (.tuple xs) := r1
        cases d with
        | @tup a vs _ ea dv =>
          exact ⟨a, rfl, ⟨vs, sqt (hide_some ea).2⟩, q _ _ e1 _ H1 [(.ref a, .tuple xs)] R1 (fun p hp => by rw [List.mem_singleton.mp hp]; exact .tup ea dv) itok_tup gr1 h1⟩
      | _ => exact h1.elim⟩
def rngAt (lo : Int) (n : Nat) : Nat → Option PyData := fun i => if i < n then some (.int (lo + i)) else none
theorem itok_rng {lo : Int} {n : Nat} : ItOk [] (Itr lo n) n (rngAt lo n) := by
  refine ⟨fun i hi => ⟨_, if_pos hi⟩, fun G H w h i => ⟨fun d hi hd => ⟨hi, fun x H' y => ?_⟩, fun hi => hi⟩⟩
  obtain ⟨rfl, rfl⟩ := y
  unfold rngAt at hd
  rw [if_pos hi] at hd
  cases hd
  exact .inl ⟨rfl, .int _⟩
def iR1 (fs : VA) : VIt := fun env k => fs env fun ws e => match dsOf ws with
  | some [.int j] => (-(2 ^ 62) ≤ j ∧ j < 2 ^ 62) ∧ k j.toNat (rngAt 0 j.toNat) e
  | _ => False
def iR2 (fs : VA) : VIt := fun env k => fs env fun ws e => match dsOf ws with
  | some [.int i, .int j] => (-(2 ^ 62) ≤ i ∧ i < 2 ^ 62 ∧ -(2 ^ 62) ≤ j ∧ j < 2 ^ 62) ∧ k (j - i).toNat (rngAt i (j - i).toNat) e
  | _ => False
theorem vi_rng1 {tg iter : Expr} (h : PI X tg iter (iRng1 (cA Tb fs))) : PI X tg iter (cI Tb (iR1 fs)) :=
  PI.imp h fun σ H R ⟨F, O, env, k, Rp, h, q⟩ => ⟨F, O, env, _, Rp, h, fun ws e1 vs H1 R1 r1 gr1 h1 => by
    split at h1
    · rename_i j ed
      have d := dsOf_dv r1 ed
      cases d with
      | cons d1 d2 =>
        cases d2
        cases d1
        exact ⟨j, rfl, h1.1.1, h1.1.2, q _ _ e1 _ H1 [] R1 (fun _ z => nomatch z) itok_rng gr1 h1.2⟩
    · exact h1.elim⟩
theorem vi_rng2 {tg iter : Expr} (h : PI X tg iter (iRng2 (cA Tb fs))) : PI X tg iter (cI Tb (iR2 fs)) :=
  PI.imp h fun σ H R ⟨F, O, env, k, Rp, h, q⟩ => ⟨F, O, env, _, Rp, h, fun ws e1 vs H1 R1 r1 gr1 h1 => by
    split at h1
    · rename_i i j ed
      have d := dsOf_dv r1 ed
      cases d with
      | cons d1 d2 =>
        cases d2 with
        | cons d2 d3 =>
          cases d3
          cases d1
          cases d2
          exact ⟨i, j, rfl, h1.1, q _ _ e1 _ H1 [] R1 (fun _ z => nomatch z) itok_rng gr1 h1.2⟩
    · exact h1.elim⟩
def enumAt (xs : List PyData) : Nat → Option PyData := fun i => (xs[i]?).map fun x => .tuple [.int (i : Nat), x]
def iEn (fs : VA) : VIt := fun env k => fs env fun ws e => match dsOf ws with
  | some [.list xs] => k xs.length (enumAt xs) e
  | _ => False
theorem itok_enum {K : PySem.W.Frag} {a : Addr} {xs : List PyData} : ItOk [(.ref a, .list xs)] (Ite K a) xs.length (enumAt xs) := by
  refine ⟨fun i hi => ⟨_, by unfold enumAt; rw [List.getElem?_eq_getElem hi]; rfl⟩, fun G H w h i => ?_⟩
  have d := h (.ref a, .list xs) (by simp)
  cases d with
  | @lst _ vs _ e dv =>
    have eH := w.le _ _ e
    refine ⟨fun d hi hd => ?_, fun hi => ⟨vs, sq eH, by rw [dv.len]; exact hi⟩⟩
    unfold enumAt at hd
    rw [List.getElem?_eq_getElem hi] at hd
    cases hd
    obtain ⟨v, hv, dd⟩ := dv.get (List.getElem?_eq_getElem hi)
    refine ⟨⟨vs, v, sq eH, hv⟩, fun x H' y => ?_⟩
    obtain ⟨T, z, rfl, nT, rfl, y⟩ := y
    have q := y vs (sq eH)
    rw [hv] at q
    cases q
    exact .inr ⟨T, _, nT, rfl, .tup upd_same (.cons (.int _) (.cons (Dv.le (Le.new (w.none nT)) _ _ dd) .nil))⟩
theorem vi_enum {tg iter : Expr} (h : PI X tg iter (iEnum X.K (cA Tb fs))) : PI X tg iter (cI Tb (iEn fs)) :=
  PI.imp h fun σ H R ⟨F, O, env, k, Rp, h, q⟩ => ⟨F, O, env, _, Rp, h, fun ws e1 vs H1 R1 r1 gr1 h1 => by
    split at h1
    · rename_i xs ed
      have d := dsOf_dv r1 ed
      cases d with
      | cons d1 d2 =>
        cases d2
        cases d1 with
        | @lst a vs _ ea dv =>
          exact ⟨a, vs, rfl, sq (hide_some ea).2, q _ _ e1 _ H1 [(.ref a, .list xs)] R1 (fun p hp => by rw [List.mem_singleton.mp hp]; exact .lst ea dv) itok_enum gr1 h1⟩
    · exact h1.elim⟩
def zipAt (xs ys : List PyData) : Nat → Option PyData := fun i => match xs[i]?, ys[i]? with
  | some x, some y => some (.tuple [x, y])
  | _, _ => none
def iZp (fs : VA) : VIt := fun env k => fs env fun ws e => match dsOf ws with
  | some [.list xs, .list ys] => k (min xs.length ys.length) (zipAt xs ys) e
  | _ => False
theorem itok_zip {K : PySem.W.Frag} {a b : Addr} {xs ys : List PyData} : ItOk [(.ref a, .list xs), (.ref b, .list ys)] (Itz K a b) (min xs.length ys.length) (zipAt xs ys) := by
  refine ⟨fun i hi => ⟨_, by unfold zipAt; rw [List.getElem?_eq_getElem (by omega), List.getElem?_eq_getElem (by omega)]⟩, fun G H w h i => ?_⟩
  have d1 := h (.ref a, .list xs) (by simp)
  have d2 := h (.ref b, .list ys) (by simp)
  cases d1 with
  | @lst _ vs _ e1 dv1 =>
    cases d2 with
    | @lst _ us _ e2 dv2 =>
      have eH1 := w.le _ _ e1
      have eH2 := w.le _ _ e2
      refine ⟨fun d hi hd => ?_, fun hi => ⟨vs, us, sq eH1, sq eH2, by rw [dv1.len, dv2.len]; omega⟩⟩
      unfold zipAt at hd
      rw [List.getElem?_eq_getElem (by omega), List.getElem?_eq_getElem (by omega)] at hd
      cases hd
      obtain ⟨v, hv, dd1⟩ := dv1.get (List.getElem?_eq_getElem (by omega : i < xs.length))
      obtain ⟨u, hu, dd2⟩ := dv2.get (List.getElem?_eq_getElem (by omega : i < ys.length))
      refine ⟨⟨vs, us, v, u, sq eH1, sq eH2, hv, hu⟩, fun x H' y => ?_⟩
      obtain ⟨T, z1, z2, rfl, nT, rfl, y1, y2⟩ := y
      have q1 := y1 vs (sq eH1)
      rw [hv] at q1
      cases q1
      have q2 := y2 us (sq eH2)
      rw [hu] at q2
      cases q2
      exact .inr ⟨T, _, nT, rfl, .tup upd_same (.cons (Dv.le (Le.new (w.none nT)) _ _ dd1) (.cons (Dv.le (Le.new (w.none nT)) _ _ dd2) .nil))⟩
theorem vi_zip {tg iter : Expr} (h : PI X tg iter (iZip X.K (cA Tb fs))) : PI X tg iter (cI Tb (iZp fs)) :=
  PI.imp h fun σ H R ⟨F, O, env, k, Rp, h, q⟩ => ⟨F, O, env, _, Rp, h, fun ws e1 vs H1 R1 r1 gr1 h1 => by
    split at h1
    · rename_i xs ys ed
      have d := dsOf_dv r1 ed
      cases d with
      | cons d1 d2 =>
        cases d2 with
        | cons d2 d3 =>
          cases d3
          cases d1 with
          | @lst a vs _ ea dv1 =>
            cases d2 with
            | @lst b us _ eb dv2 =>
              refine ⟨a, b, vs, us, rfl, sq (hide_some ea).2, sq (hide_some eb).2, q _ _ e1 _ H1 [(.ref a, .list xs), (.ref b, .list ys)] R1 (fun p hp => ?_) itok_zip gr1 h1⟩
              simp only [List.mem_cons, List.not_mem_nil, or_false] at hp
              rcases hp with rfl | rfl
              · exact .lst ea dv1
              · exact .lst eb dv2
    · exact h1.elim⟩
/-! ### loops -/
/-- what is to be shown of a loop -/
def ForGoal (n : Nat) (it : Nat → Option PyData) (b : VB) (gb : VG) (E : VEnds) (e1 : En) : Prop := ∃ Inv : Nat → En → Prop, Inv 0 e1 ∧ (∀ i x e, i < n → it i = some x → Inv i e → b x e fun e2 => gb { E with nx := Inv (i + 1), ct := Inv (i + 1), bk := E.nx } e2) ∧ ∀ e, Inv n e → E.nx e
def vFor (fi : VIt) (b : VB) (gb : VG) : VG := fun E env => fi env fun n it e1 => ForGoal n it b gb E e1
theorem vs_for {tg iter : Expr} {body : List Stmt} {fi : VIt} {b : VB} {gb : VG} {sl : List Nat} (hp : PassesOwn (model X.prog X.w) X.A X.env X.xe) (hc : X.calm = true) (hi : PI X tg iter (cI Tb fi)) (hg : PG X tg (cG Tb sl b)) (hb : VSs X Tb body gb)
    (hs : ∀ x, foldedSetIterable iter X.env x = pure x := by intro _; rfl) : VS X Tb (.For tg iter body [] pos) (vFor fi b gb) :=
  PS.imp (ps_for hp hc hi hg hb hs) fun D σ H ⟨F, O, env, E, R, h, C⟩ => by
    refine ⟨F, O, env, _, R, h, fun n it e1 J H1 ps R1 hps ok gr1 ⟨Iv, h0, hst, hend⟩ => ?_⟩
    refine ⟨fun i m σ H => m = n - i ∧ i ≤ n ∧ ∃ O e, Rep Tb { F with ps := ps ++ F.ps } O σ H e ∧ Iv i e, ⟨_, rfl, Nat.zero_le _, O, e1, R1.more hps, h0⟩, ?_⟩
    rintro i m σ2 H2 ⟨rfl, hi, O2, e2, R2, inv⟩
    have iter := ok.2 (vw F O2 H2) H2 view_vw (fun p hp => R2.ps p (List.mem_append_left _ hp)) i
    by_cases lt : i < n
    · obtain ⟨d, ed⟩ := ok.1 i lt
      obtain ⟨go, yl⟩ := iter.1 d lt ed
      refine .inr ⟨go, fun σ H => i + 1 ≤ n ∧ ∃ O e, Rep Tb { F with ps := ps ++ F.ps } O σ H e ∧ Iv (i + 1) e, fun σ3 H3 q => ⟨_, by omega, rfl, q⟩, fun x H3 y => ?_⟩
      obtain ⟨R3, r3, g3⟩ := R2.res (yl x H3 y)
      refine ⟨_, O2, e2, d, _, R3, r3, hst i d e2 lt ed inv, fun σ4 e4 R4 _ h4 => ⟨_, _, e4, _, R4, h4, ⟨fun O σ H env R h => ⟨lt, O, env, R, h⟩, fun O σ H env v x R d h => C.rt O σ H env v x R.fewer d h, fun O σ H env R h => C.nx O σ H env R.fewer h, fun O σ H env R h => ⟨lt, O, env, R, h⟩, fun O σ H env i a vs xs R h1 h2 h3 h => C.ro O σ H env i a vs xs R.fewer h1 h2 h3 h⟩⟩⟩
    · obtain rfl : i = n := by omega
      exact .inl ⟨iter.2 (Nat.le_refl _), C.nx _ _ _ _ R2.fewer (hend _ inv)⟩
def WhileGoal (t : VT) (gb : VG) (E : VEnds) (env : En) : Prop := ∃ Inv : Nat → En → Prop, (∃ m, Inv m env) ∧ ∀ m e, Inv m e → t e fun b e2 => if b = true then gb { E with nx := fun e3 => ∃ m', m' < m ∧ Inv m' e3, ct := fun e3 => ∃ m', m' < m ∧ Inv m' e3, bk := E.nx } e2 else E.nx e2
def vWhile (t : VT) (gb : VG) : VG := fun E env => WhileGoal t gb E env
theorem vs_while {body : List Stmt} {t : VT} {gb : VG} (hp : PassesOwn (model X.prog X.w) X.A X.env X.xe) (hc : VTt X Tb c t) (hb : VSs X Tb body gb) : VS X Tb (.While c body [] pos) (vWhile t gb) :=
  PS.imp (ps_while hp hc hb) fun D σ H ⟨F, O, env, E, R, ⟨Iv, ⟨m, h0⟩, hst⟩, C⟩ => by
    refine ⟨fun m σ H => ∃ O e, Rep Tb F O σ H e ∧ Iv m e, ⟨m, O, env, R, h0⟩, ?_⟩
    rintro m σ2 H2 ⟨O2, e2, R2, inv⟩
    refine ⟨F, O2, e2, _, R2, hst m e2 inv, fun b e3 H3 R3 g3 h3 => ?_⟩
    cases b with
    | true =>
      rw [if_pos rfl] at h3 ⊢
      refine ⟨fun σ H => ∃ m', m' < m ∧ ∃ O e, Rep Tb F O σ H e ∧ Iv m' e, fun σ4 H4 q => q, F, O2, e3, _, R3, h3, ⟨fun O σ H env R ⟨m', l, h⟩ => ⟨m', l, O, env, R, h⟩, C.rt, C.nx, fun O σ H env R ⟨m', l, h⟩ => ⟨m', l, O, env, R, h⟩, C.ro⟩⟩
    | false =>
      rw [if_neg Bool.false_ne_true] at h3 ⊢
      exact C.nx _ _ _ _ R3 h3
end
end Sp
end

section
set_option maxHeartbeats 1000000
/-! A function by its body; list comprehensions. -/
namespace Sp
open PySem PySem.Spec PyProof.Rows L2
theorem start_get {N : List Str} {vs : List V} {i : Nat} {v : Option V} (h : (L2.start N vs)[i]? = some v) : (∃ x, vs[i]? = some x ∧ v = some x) ∨ (vs.length ≤ i ∧ v = none) := by
  unfold L2.start at h
  by_cases hi : i < vs.length
  · rw [List.getElem?_append_left (by simpa using hi), List.getElem?_map] at h
    cases e : vs[i]? with
    | none => rw [e] at h; cases h
    | some a => rw [e] at h; cases h; exact .inl ⟨a, rfl, rfl⟩
  · rw [List.getElem?_append_right (by simpa using hi), List.getElem?_replicate] at h
    split at h
    · cases h
      exact .inr ⟨by omega, rfl⟩
    · cases h
/-- the slots at a function's entry -/
def env0 (n : Nat) (ds : List PyData) : En := ds.map SV.d ++ List.replicate (n - ds.length) .u
theorem rep0 {Tb : List Addr} {H : Hp} {hd : Addr → Prop} {vs : List V} {ds : List PyData} {N : List Str} (h0 : ∀ a, hd a → H a ≠ none) (d : DvA (hide hd H) vs ds) (t : ∀ T ∈ Tb, GxR.TabG H T) :
    Rep Tb ⟨H, [], hd, []⟩ (fun _ => none) (L2.start N vs) H (env0 N.length ds) := by
  have hv : vw ⟨H, [], hd, []⟩ (fun _ => none) H = hide hd H := by
    unfold vw hid hide
    funext a
    have e : (hd a ∨ ∃ i : Nat, (none : Option Addr) = some a) ↔ hd a := ⟨fun z => z.elim id fun ⟨_, q⟩ => (by cases q), fun z => Or.inl z⟩
    by_cases z : hd a
    · rw [if_pos (e.mpr z), if_pos z]
    · rw [if_neg (fun q => z (e.mp q)), if_neg z]
  refine ⟨Ex.refl _, t, ?_, fun i s v e1 e2 => ?_, h0, fun i a e => (by cases e), fun i a e => (by cases e), fun i a e => (by cases e), fun i j a e => (by cases e), fun p hp => nomatch hp⟩
  · unfold env0 L2.start
    rw [List.length_append, List.length_append, List.length_map, List.length_map, List.length_replicate, List.length_replicate, d.len]
  · unfold env0 at e1
    by_cases hi : i < ds.length
    · rw [List.getElem?_append_left (by simpa using hi), List.getElem?_map, List.getElem?_eq_getElem hi] at e1
      cases e1
      obtain ⟨w, hw, dw⟩ := d.get (List.getElem?_eq_getElem hi)
      rcases start_get e2 with ⟨x, hx, rfl⟩ | ⟨z, _⟩
      · rw [hw] at hx
        cases hx
        refine ⟨w, rfl, ?_⟩
        rw [hv]
        exact dw
      · rw [d.len] at z
        omega
    · rw [List.getElem?_append_right (by simpa using hi), List.getElem?_replicate] at e1
      split at e1
      · cases e1
        trivial
      · cases e1
/-- a body run from its data -/
theorem run_body {X : Cx} {Tb : List Addr} {body : List Stmt} {g : VG} {f : Fc} {N : List Str} {vs : List V} {H : Hp} {Q : VK} {E : XK} (hb : VSs X Tb body g) (h : spD Tb f vs H Q E)
    (hg : ∀ ds k, f ds k → g { nx := fun _ => k .none, rt := fun r _ => k r } (env0 N.length ds)) : ∃ t, PSs X body t ∧ t { nx := fun _ H' => Q .non H', rt := Q } (L2.start N vs) H := by
  obtain ⟨hd, ds, k, h0, d, t, hf, q⟩ := h
  refine ⟨_, hb, ⟨H, [], hd, []⟩, _, _, _, rep0 h0 d t, hg ds k hf, ⟨fun O σ H' env R h => q .non .none H' R.ex .non h, fun O σ H' env v x R dv h => q v x H' R.ex (Dv.le (fun a o e _ => ?_) _ _ dv) h, fun _ _ _ _ _ h => h.elim, fun _ _ _ _ _ h => h.elim, fun _ _ _ _ _ _ _ _ _ _ _ _ h => h.elim⟩⟩
  obtain ⟨n, e⟩ := hide_some e
  exact hide_of (fun z => n (.inl z)) e
theorem run_bodyX {X : Cx} {Tb : List Addr} {body : List Stmt} {g : VG} {f : Fc} {N : List Str} {vs : List V} {H : Hp} {Q : VK} {E : XK} (hb : VSs X.nox Tb body g) (h : spD Tb f vs H Q E)
    (hg : ∀ ds k, f ds k → g { nx := fun _ => k .none, rt := fun r _ => k r } (env0 N.length ds)) : ∃ t, PSs X body t ∧ t { nx := fun _ H' => Q .non H', rt := Q } (L2.start N vs) H := by
  obtain ⟨t, ht, hq⟩ := run_body hb h hg
  exact ⟨t, PSs.nox ht, hq⟩
def envC (n : Nat) (c : Addr) (M : Int) (ds : List PyData) : En := .c c M :: (ds.map SV.d ++ List.replicate (n - (ds.length + 1)) .u)
theorem repC {Tb : List Addr} {H : Hp} {hd : Addr → Prop} {c : Addr} {M : Int} {vs : List V} {ds : List PyData} {N : List Str} (h0 : ∀ a, hd a → H a ≠ none) (hc : hd c) (kc : CaskAt H c M) (d : DvA (hide hd H) vs ds) (t : ∀ T ∈ Tb, GxR.TabG H T) :
    Rep Tb ⟨H, [c], hd, []⟩ (fun i => if i = 0 then some c else none) (L2.start N (.ref c :: vs)) H (envC N.length c M ds) := by
  have hv : vw ⟨H, [c], hd, []⟩ (fun i => if i = 0 then some c else none) H = hide hd H := by
    unfold vw hid hide
    funext a
    by_cases z : hd a
    · simp [z]
    · have : ¬ (c = a) := fun e => z (e ▸ hc)
      simp [z, this]
  have ow : ∀ {i a}, (fun i => if i = 0 then some c else none : Ow) i = some a → i = 0 ∧ a = c := fun {i a} e => by
    by_cases z : i = 0
    · simp [z] at e
      exact ⟨z, e.symm⟩
    · simp [z] at e
  refine ⟨Ex.refl _, t, ?_, fun i s v e1 e2 => ?_, h0, fun i a e => ?_, fun i a e => ?_, fun i a e _ => ?_, fun i j a e1 e2 => ?_, fun p hp => nomatch hp⟩
  · unfold envC L2.start
    simp only [List.length_cons, List.length_append, List.length_map, List.length_replicate, d.len, List.map_cons, List.cons_append]
  · cases i with
    | zero =>
      cases e1
      have e : (L2.start N (.ref c :: vs))[0]? = some (some (.ref c)) := rfl
      rw [e] at e2
      cases e2
      exact ⟨rfl, rfl, kc⟩
    | succ i =>
      have e1 : (ds.map SV.d ++ List.replicate (N.length - (ds.length + 1)) SV.u)[i]? = some s := e1
      by_cases hi : i < ds.length
      · rw [List.getElem?_append_left (by simpa using hi), List.getElem?_map, List.getElem?_eq_getElem hi] at e1
        cases e1
        obtain ⟨w, hw, dw⟩ := d.get (List.getElem?_eq_getElem hi)
        rcases start_get e2 with ⟨x, hx, rfl⟩ | ⟨z, _⟩
        · have hx : vs[i]? = some x := hx
          rw [hw] at hx
          cases hx
          refine ⟨w, rfl, ?_⟩
          rw [hv]
          exact dw
        · rw [List.length_cons, d.len] at z
          omega
      · rw [List.getElem?_append_right (by simpa using hi), List.getElem?_replicate] at e1
        split at e1
        · cases e1
          trivial
        · cases e1
  · obtain ⟨rfl, rfl⟩ := ow e
    exact .inl (by simp)
  · obtain ⟨rfl, rfl⟩ := ow e
    exact .inr ⟨M, rfl⟩
  · obtain ⟨rfl, rfl⟩ := ow e
    exact ⟨M, rfl⟩
  · obtain ⟨rfl, rfl⟩ := ow e1
    obtain ⟨rfl, _⟩ := ow e2
    rfl
/-- .. of one that draws from a cask -/
theorem run_bodyC {X : Cx} {Tb : List Addr} {body : List Stmt} {g : VG} {f : FcC} {N : List Str} {vs : List V} {H : Hp} {Q : VK} {E : XK} (hb : VSs X Tb body g) (h : spC Tb f vs H Q E)
    (hg : ∀ c M ds k, f M ds k → g { nx := fun _ => False, rt := fun r e => ∃ M', e[0]? = some (.c c M') ∧ k r M' } (envC N.length c M ds)) : ∃ t, PSs X body t ∧ t { nx := fun _ H' => Q .non H', rt := Q } (L2.start N vs) H := by
  obtain ⟨hd, c, ws, M, ds, k, rfl, h0, hc, kc, d, t, hf, q⟩ := h
  refine ⟨_, hb, ⟨H, [c], hd, []⟩, _, _, _, repC (N := N) h0 hc kc d t, hg c M ds k hf, ⟨fun _ _ _ _ _ h => h.elim, fun O σ H' env v x R dv ⟨M', e, h⟩ => ?_, fun _ _ _ _ _ h => h.elim, fun _ _ _ _ _ h => h.elim, fun _ _ _ _ _ _ _ _ _ _ _ _ h => h.elim⟩⟩
  obtain ⟨_, _, _, ho, kc'⟩ := R.slot e
  refine q v x M' H' R.ex kc' (Dv.le (fun a o e _ => ?_) _ _ dv) h
  obtain ⟨n, e⟩ := hide_some e
  exact hide_of (fun z => n (.inl z)) e
theorem DvA.len' {G : Hp} {vs : List V} {ds : List PyData} (h : DvA G vs ds) : vs.length = ds.length := h.len
theorem spD_len {Tb : List Addr} {f : Fc} {vs : List V} {H : Hp} {Q : VK} {E : XK} {n : Nat} (h : spD Tb f vs H Q E) (hl : ∀ ds k, f ds k → ds.length = n) : vs.length = n := by
  obtain ⟨hd, ds, k, _, d, _, hf, _⟩ := h
  rw [d.len]
  exact hl ds k hf
theorem spC_len {Tb : List Addr} {f : FcC} {vs : List V} {H : Hp} {Q : VK} {E : XK} {n : Nat} (h : spC Tb f vs H Q E) (hl : ∀ M ds k, f M ds k → ds.length = n) : vs.length = n + 1 := by
  obtain ⟨hd, c, ws, M, ds, k, rfl, _, _, _, d, _, hf, _⟩ := h
  rw [List.length_cons, d.len, hl M ds k hf]
theorem sz {n : Nat} (h : n ≤ 1000) : (n ≤ sizeLine) = True := eq_true (Nat.le_trans h (by decide))
/-! ### list comprehensions -/
/-- within a comprehension's block: the new list at D is hidden, and so may change -/
def sub (F : Fr) (O : Ow) (n : Nat) (H : Hp) (D : Addr) (ps : List (V × PyData)) : Fr := ⟨H, (List.range n).filterMap O, fun a => F.hd a ∨ a = D, ps ++ F.ps⟩
section
variable {Tb : List Addr} {F : Fr} {O : Ow} {σ : L2.St} {H H' H1 : Hp} {env : En} {D : Addr} {ps : List (V × PyData)} {n : Nat}
theorem mem_ow (R : Rep Tb F O σ H env) (hn : env.length = n) {i : Nat} {a : Addr} (e : O i = some a) : a ∈ (List.range n).filterMap O := by
  refine List.mem_filterMap.mpr ⟨i, List.mem_range.mpr ?_, e⟩
  rw [← hn]
  rcases R.ow i a e with ⟨xs, q⟩ | ⟨M, q⟩ <;> exact (List.getElem?_eq_some_iff.mp q).1
theorem vw_sub : Le (vw (sub F O n H1 D ps) O H) (vw F O H) := fun a o e _ => by
  obtain ⟨m, e⟩ := hide_some e
  exact hide_of (fun z => m (z.elim (fun z => .inl (.inl z)) .inr)) e
/-- into the block: D is not seen -/
theorem Rep.enter (R : Rep Tb F O σ H env) (hn : env.length = n) (hD : H D = none) (hp : ∀ p ∈ ps, Dv (vw F O H) p.1 p.2) {o : HO} : Rep Tb (sub F O n (upd H D o) D ps) O σ (upd H D o) env := by
  have nD : ∀ i a, O i = some a → a ≠ D := fun i a e => by
    obtain ⟨xs, h⟩ := R.there e
    exact ne_of_none h hD
  have l : Le (vw F O H) (vw (sub F O n (upd H D o) D ps) O (upd H D o)) := fun a u e _ => by
    obtain ⟨m, e⟩ := hide_some e
    have nd := ne_of_none e hD
    refine hide_of (fun z => ?_) (by rw [upd_ne nd]; exact e)
    rcases z with (z | z) | z
    · exact m (.inl z)
    · exact nd z
    · exact m (.inr z)
  refine ⟨Ex.refl _, fun T t => (Ex.new (C := []) (o := o) hD).tab T (R.tb T t), R.len, fun i s v e1 e2 => (R.sl i s v e1 e2).mono l rfl fun a ha => upd_ne (nD i a ha), fun a h => ?_, fun i a e => .inl (mem_ow R hn e), R.ow, fun i a e h => ?_, R.inj, fun p hq => ?_⟩
  · rcases h with h | rfl
    · show upd H D o a ≠ none
      intro z
      by_cases e : a = D
      · subst e
        rw [upd_same] at z
        cases z
      · rw [upd_ne e] at z
        exact R.hdn a h (R.ex.there a z)
    · show upd H a o a ≠ none
      rw [upd_same]
      exact fun z => nomatch z
  · exact R.onh i a e (h.resolve_right (nD i a e))
  · rcases List.mem_append.mp hq with hq | hq
    · exact Dv.le l _ _ (hp p hq)
    · exact Dv.le l _ _ (R.ps p hq)
theorem vw_same {o : HO} : vw (sub F O n (upd H D o) D ps) O (upd H D o) = vw (sub F O n H1 D ps) O H := by
  funext a
  unfold vw hide
  by_cases z : hid (sub F O n H1 D ps) O a
  · rw [if_pos z, if_pos (show hid (sub F O n (upd H D o) D ps) O a from z)]
  · rw [if_neg z, if_neg (show ¬ hid (sub F O n (upd H D o) D ps) O a from z)]
    exact upd_ne fun e => z (.inl (.inr e))
/-- the block's heap is taken anew, D written -/
theorem Rep.again (R : Rep Tb (sub F O n H1 D ps) O σ H env) (hn : env.length = n) (nD : ∀ i a, O i = some a → a ≠ D) {u o : HO} (hD : H D = some u) (hu : ∀ ps, u ≠ .tbl ps) : Rep Tb (sub F O n (upd H D o) D ps) O σ (upd H D o) env := by
  have x : Ex [D] H (upd H D o) := Ex.set hD hu (by simp)
  have l : Le (vw (sub F O n H1 D ps) O H) (vw (sub F O n (upd H D o) D ps) O (upd H D o)) := by
    rw [vw_same (H1 := H1)]
    exact Le.rfl
  refine ⟨Ex.refl _, fun T t => x.tab T (R.tb T t), R.len, fun i s v e1 e2 => (R.sl i s v e1 e2).mono l rfl fun a ha => upd_ne (nD i a ha), fun a h z => ?_, fun i a e => .inl (mem_ow R hn e), R.ow, R.onh, R.inj, fun p hq => Dv.le l _ _ (R.ps p hq)⟩
  exact R.hdn a h (R.ex.there a (x.there a z))
def unset (e : En) : List Nat → En
  | [] => e
  | j :: sl => (unset e sl).set j .u
def back (e1 e : En) : List Nat → En
  | [] => e
  | j :: sl => (back e1 e sl).set j ((e1[j]?).getD .u)
def isOwn : Option SV → Bool
  | some (.o _) => true
  | some (.c _ _) => true
  | _ => false
theorem clr_id {sl : List Nat} (h : ∀ j ∈ sl, O j = none) : clr O sl = O := by
  funext j
  unfold clr
  split
  · rename_i m
    exact (h j m).symm
  · rfl
theorem Rep.none_of (R : Rep Tb F O σ H env) {j : Nat} (h : isOwn env[j]? = false) : O j = none := by
  cases e : O j with
  | none => rfl
  | some a =>
    rcases R.ow j a e with ⟨xs, q⟩ | ⟨M, q⟩ <;> rw [q] at h <;> cases h
theorem unset_len (e : En) : ∀ sl : List Nat, (unset e sl).length = e.length
  | [] => rfl
  | j :: sl => by
    show ((unset e sl).set j .u).length = _
    rw [List.length_set, unset_len]
theorem back_len (e1 e : En) : ∀ sl : List Nat, (back e1 e sl).length = e.length
  | [] => rfl
  | j :: sl => by
    show ((back e1 e sl).set j _).length = _
    rw [List.length_set, back_len]
theorem Rep.wiped (R : Rep Tb F O σ H env) : ∀ {sl : List Nat}, (∀ j ∈ sl, O j = none) → (∀ j ∈ sl, j < env.length) → Rep Tb F O (wipe σ sl) H (unset env sl)
  | [], _, _ => R
  | j :: sl, h, hl => by
    have R1 := Rep.wiped R (sl := sl) (fun i m => h i (List.mem_cons_of_mem _ m)) fun i m => hl i (List.mem_cons_of_mem _ m)
    have R2 := R1.putU (i := j) (v := none) (by rw [unset_len]; exact hl j List.mem_cons_self)
    rw [clr_id (fun i m => by rw [List.mem_singleton.mp m]; exact h j List.mem_cons_self)] at R2
    exact R2
theorem back_in {e1 e : En} {j : Nat} : ∀ {sl : List Nat}, j ∈ sl → j < e.length → (back e1 e sl)[j]? = some ((e1[j]?).getD .u)
  | i :: sl, h, hl => by
    show ((back e1 e sl).set i _)[j]? = _
    by_cases z : i = j
    · subst z
      rw [List.getElem?_set_self (by rw [back_len]; exact hl)]
    · rw [List.getElem?_set_ne z]
      exact back_in ((List.mem_cons.mp h).resolve_left (fun q => z q.symm)) hl
theorem back_out {e1 e : En} {j : Nat} : ∀ {sl : List Nat}, j ∉ sl → (back e1 e sl)[j]? = e[j]?
  | [], _ => rfl
  | i :: sl, h => by
    show ((back e1 e sl).set i _)[j]? = _
    rw [List.getElem?_set_ne (fun z => h (by simp [z]))]
    exact back_out fun z => h (List.mem_cons_of_mem _ z)
theorem wipe_out {σ : L2.St} {j : Nat} : ∀ {sl : List Nat}, j ∉ sl → (wipe σ sl)[j]? = σ[j]?
  | [], _ => rfl
  | i :: sl, h => by
    show ((wipe σ sl).set i none)[j]? = _
    rw [List.getElem?_set_ne (fun z => h (by simp [z]))]
    exact wipe_out fun z => h (List.mem_cons_of_mem _ z)
/-- out of the block -/
theorem Rep.exit {e1 e : En} {sl : List Nat} (R0 : Rep Tb F O σ H1 e1) (R : Rep Tb (sub F O σ.length H D ps) O (wipe σ sl) H e) (hD : H1 D = none) (x : Ex (D :: (List.range σ.length).filterMap O) H1 H) (hs : ∀ j ∈ sl, isOwn e1[j]? = false) (hl : ∀ j ∈ sl, j < σ.length) :
    Rep Tb F O σ H (back e1 e sl) ∧ Gr F O H1 H := by
  have mo : ∀ {c}, c ∈ (List.range σ.length).filterMap O → ∃ i, O i = some c := fun h => by
    obtain ⟨i, _, e⟩ := List.mem_filterMap.mp h
    exact ⟨i, e⟩
  have g : Gr F O H1 H := fun a o n e t => x.keep a o (fun z => by
    rcases List.mem_cons.mp z with rfl | z
    · rw [hD] at e
      cases e
    · exact n (.inr (mo z))) e t
  have le : e.length = σ.length := by
    rw [R.len, wipe_length]
  refine ⟨⟨?_, R.tb, by rw [back_len]; exact le, fun j s v e2 e3 => ?_, R0.hdn, R0.own, fun i a q => ?_, fun i a q h => ?_, R0.inj, fun p hp => Dv.le g.le _ _ (R0.ps p hp)⟩, g⟩
  · refine Ex.less ((R0.ex.mono (D := F.C ++ (D :: (List.range σ.length).filterMap O)) fun c h => List.mem_append_left _ h).trans (x.mono fun c h => List.mem_append_right _ h)) fun c h => ?_
    rcases List.mem_append.mp h with h | h
    · exact .inl h
    · rcases List.mem_cons.mp h with rfl | h
      · exact .inr (R0.ex.there _ hD)
      · obtain ⟨i, e⟩ := mo h
        exact R0.own i c e
  · by_cases m : j ∈ sl
    · rw [back_in m (by rw [le]; exact hl j m)] at e2
      have q := hs j m
      cases e4 : e1[j]? with
      | none =>
        rw [e4] at e2
        cases e2
        trivial
      | some t =>
        rw [e4] at e2 q
        cases e2
        have r := R0.sl j t v e4 e3
        cases t with
        | u => trivial
        | d y =>
          obtain ⟨v, rfl, d⟩ := r
          exact ⟨v, rfl, Dv.le g.le _ _ d⟩
        | o _ => cases q
        | c _ _ => cases q
        | r w => exact r
        | x b ts => exact ⟨r.1, fun p hp => ⟨(r.2 p hp).1, g _ _ (r.2 p hp).1 (r.2 p hp).2.1 (r.2 p hp).2.2, (r.2 p hp).2.2⟩⟩
    · rw [back_out m] at e2
      exact (R.sl j s v e2 (by rw [wipe_out m]; exact e3)).mono vw_sub rfl fun _ _ => rfl
  · have m : i ∉ sl := fun m => by
      rw [R0.none_of (hs i m)] at q
      cases q
    rw [back_out m]
    exact R.ow i a q
  · have m : i ∉ sl := fun m => by
      rw [R0.none_of (hs i m)] at q
      cases q
    rw [back_out m]
    exact R.onh i a q (.inl h)
def vD (k : PyData → En → Prop) : W → En → Prop
  | .d x, e => k x e
  | .own _, _ => False
/-- what is to be shown of a comprehension -/
def LcGoal (n : Nat) (it : Nat → Option PyData) (b : VB) (t : VT) (fe : VF) (sl : List Nat) (e1 : En) (k : W → En → Prop) : Prop := (n ≤ sizeLine ∧ (sl.all fun j => !isOwn e1[j]? && decide (j < e1.length)) = true) ∧ ∃ Iv : Nat → List PyData → En → Prop, Iv 0 [] (unset e1 sl) ∧
  (∀ i x acc e, i < n → it i = some x → acc.length ≤ i → Iv i acc e → b x e fun e2 => t e2 fun c e3 => if c = true then fe e3 (vD fun y e4 => Iv (i + 1) (acc ++ [y]) (unset e4 sl)) else Iv (i + 1) acc (unset e3 sl)) ∧
  ∀ acc e, acc.length ≤ n → Iv n acc e → k (.d (.list acc)) (back e1 e sl)
def vLc (fi : VIt) (b : VB) (t : VT) (fe : VF) (sl : List Nat) : VF := fun env k => fi env fun n it e1 => LcGoal n it b t fe sl e1 k
theorem lc_sem {fi : VIt} {b : VB} {t : VT} {fe : VF} {sl : List Nat} {Q : VK} (h : cE Tb (vLc fi b t fe sl) σ H Q) : tLc (cI Tb fi) (cG Tb sl b) (cT Tb t) (cE Tb fe) sl σ H Q := by
  obtain ⟨F, O, env, k, R, h, q⟩ := h
  refine ⟨F, O, env, _, R, h, fun n it e1 J H1 ps R1 hps ok gr1 ⟨⟨hz, hown⟩, Iv, h0, hst, hend⟩ D hD => ?_⟩
  have hs : ∀ j ∈ sl, isOwn e1[j]? = false ∧ j < e1.length := fun j m => by
    have z := List.all_eq_true.mp hown j m
    simp only [Bool.and_eq_true, Bool.not_eq_true', decide_eq_true_eq] at z
    exact z
  have hO : ∀ j ∈ sl, O j = none := fun j m => R1.none_of (hs j m).1
  have cO : clr O sl = O := clr_id hO
  have hl : ∀ j ∈ sl, j < σ.length := fun j m => by
    rw [← R1.len]
    exact (hs j m).2
  have nD : ∀ i a, O i = some a → a ≠ D := fun i a e => by
    obtain ⟨xs, h⟩ := R1.there e
    exact ne_of_none h hD
  have nC : D ∉ (List.range σ.length).filterMap O := fun z => by
    obtain ⟨i, _, e⟩ := List.mem_filterMap.mp z
    exact nD i D e rfl
  have elen : ∀ {G : Fr} {H2 : Hp} {e2 : En}, Rep Tb G O (wipe σ sl) H2 e2 → e2.length = σ.length := fun R => by rw [R.len, wipe_length]
  refine ⟨fun i m H => m = n - i ∧ i ≤ n ∧ ∃ acc vs e, Rep Tb (sub F O σ.length H D ps) O (wipe σ sl) H e ∧ H D = some (.lst vs) ∧ DvA (vw (sub F O σ.length H D ps) O H) vs acc ∧ Iv i acc e ∧ acc.length ≤ i ∧ Ex (D :: (List.range σ.length).filterMap O) H1 H,
    ⟨_, rfl, Nat.zero_le _, [], [], _, (R1.wiped hO fun j m => (hs j m).2).enter (by rw [unset_len, R1.len]) hD hps, upd_same, .nil, h0, Nat.le_refl _, Ex.new hD⟩, ?_⟩
  rintro i m H2 ⟨rfl, hi, acc, vs, e2, R2, hv, dv, inv, hacc, x2⟩
  have iter := ok.2 (vw (sub F O σ.length H2 D ps) O H2) H2 view_vw (fun p hp => R2.ps p (List.mem_append_left _ hp)) i
  by_cases lt : i < n
  · obtain ⟨d, ed⟩ := ok.1 i lt
    obtain ⟨go, yl⟩ := iter.1 d lt ed
    refine .inr ⟨go, fun H3 => i + 1 ≤ n ∧ ∃ acc vs e, Rep Tb (sub F O σ.length H3 D ps) O (wipe σ sl) H3 e ∧ H3 D = some (.lst vs) ∧ DvA (vw (sub F O σ.length H3 D ps) O H3) vs acc ∧ Iv (i + 1) acc e ∧ acc.length ≤ i + 1 ∧ Ex (D :: (List.range σ.length).filterMap O) H1 H3, fun H3 z => ⟨_, by omega, rfl, z⟩, fun x H3 y => ?_⟩
    obtain ⟨R3, r3, g3⟩ := R2.res (yl x H3 y)
    refine ⟨_, O, e2, d, _, R3, r3, hst i d acc e2 lt ed hacc inv, fun σ4 e4 R4 w4 h4 => ⟨w4.trans ?_, ?_⟩⟩
    · have idem : ∀ l : List Nat, wipe (wipe σ sl) l = wipe (wipe σ l) sl := fun l => wipe_comm
      have w2 : ∀ l : List Nat, (∀ j ∈ l, j ∈ sl) → wipe (wipe σ sl) l = wipe σ sl := fun l => by
        induction l with
        | nil => intro _; rfl
        | cons j l ih =>
          intro hm
          show (wipe (wipe σ sl) l).set j none = _
          rw [ih fun i m => hm i (List.mem_cons_of_mem _ m)]
          have hj := hm j List.mem_cons_self
          have : (wipe σ sl)[j]? = some none := by
            have go : ∀ l : List Nat, j ∈ l → (wipe σ l)[j]? = some none := fun l => by
              induction l with
              | nil => intro z; cases z
              | cons i l ih =>
                intro z
                show ((wipe σ l).set i none)[j]? = _
                by_cases ij : i = j
                · subst ij
                  rw [List.getElem?_set_self (by rw [wipe_length]; exact hl i hj)]
                · rw [List.getElem?_set_ne ij]
                  exact ih ((List.mem_cons.mp z).resolve_left fun q => ij q.symm)
            exact go sl hj
          exact set_id this
      exact w2 sl fun _ m => m
    · rw [cO] at R4
      have w5 : wipe σ4 sl = wipe σ sl := by
        rw [w4]
        have go : ∀ l : List Nat, (∀ j ∈ l, j ∈ sl) → wipe (wipe σ sl) l = wipe σ sl := fun l => by
          induction l with
          | nil => intro _; rfl
          | cons j l ih =>
            intro hm
            show (wipe (wipe σ sl) l).set j none = _
            rw [ih fun i m => hm i (List.mem_cons_of_mem _ m)]
            have hj := hm j List.mem_cons_self
            have go : ∀ l : List Nat, j ∈ l → (wipe σ l)[j]? = some none := fun l => by
              induction l with
              | nil => intro z; cases z
              | cons i l ih =>
                intro z
                show ((wipe σ l).set i none)[j]? = _
                by_cases ij : i = j
                · subst ij
                  rw [List.getElem?_set_self (by rw [wipe_length]; exact hl i hj)]
                · rw [List.getElem?_set_ne ij]
                  exact ih ((List.mem_cons.mp z).resolve_left fun q => ij q.symm)
            exact set_id (go sl hj)
        exact go sl fun _ m => m
      refine ⟨_, O, e4, _, R4, h4, fun c e5 H5 R5 g5 h5 => ?_⟩
      have fin : ∀ {H6 : Hp} {e6 : En}, Rep Tb (sub F O σ.length H2 D ps) O σ4 H6 e6 → Rep Tb (sub F O σ.length H2 D ps) O (wipe σ sl) H6 (unset e6 sl) ∧ H6 D = some (.lst vs) ∧ Ex (D :: (List.range σ.length).filterMap O) H1 H6 := fun {H6 e6} R6 => by
        have l6 : e6.length = σ.length := by
          rw [R6.len, ← wipe_length σ4 sl, w5, wipe_length]
        have z := R6.wiped hO fun j m => by rw [l6]; exact hl j m
        rw [w5] at z
        exact ⟨z, R6.ex.keep D _ nC hv (fun _ z => nomatch z), x2.trans (R6.ex.mono fun c h => List.mem_cons_of_mem _ h)⟩
      cases c with
      | true =>
        rw [if_pos rfl] at h5
        refine iteT ⟨_, O, e5, _, R5, h5, fun w e6 y6 H6 R6 r6 g6 h6 => ?_⟩
        cases w with
        | own _ => exact h6.elim
        | d y =>
          obtain ⟨R7, hD7, x7⟩ := fin R6
          have dv7 : DvA (vw (sub F O σ.length H2 D ps) O H6) vs acc := DvA.le (g3.trans (g5.trans g6)).le _ _ dv
          refine ⟨vs, hD7, by rw [dv.len]; omega, lt, acc ++ [y], _, _, R7.again (elen R7) nD hD7 (fun _ z => nomatch z), upd_same, ?_, h6, by rw [List.length_append]; exact Nat.succ_le_succ hacc, x7.trans (Ex.set hD7 (fun _ z => nomatch z) (by simp))⟩
          rw [vw_same (H1 := H2)]
          exact dv7.app (.cons r6 .nil)
      | false =>
        rw [if_neg Bool.false_ne_true] at h5
        refine iteF ?_
        obtain ⟨R7, hD7, x7⟩ := fin R5
        have dv7 : DvA (vw (sub F O σ.length H2 D ps) O H5) vs acc := DvA.le (g3.trans g5).le _ _ dv
        have e8 : upd H5 D (.lst vs) = H5 := by
          funext a
          by_cases z : a = D
          · subst z
            rw [upd_same, hD7]
          · rw [upd_ne z]
        have R8 := R7.again (o := .lst vs) (elen R7) nD hD7 (fun _ z => nomatch z)
        have v8 := vw_same (F := F) (O := O) (n := σ.length) (H := H5) (D := D) (ps := ps) (H1 := H2) (o := .lst vs)
        rw [e8] at R8 v8
        exact ⟨lt, acc, vs, _, R8, hD7, by rw [v8]; exact dv7, h5, by omega, x7⟩
  · obtain rfl : i = n := by omega
    refine .inl ⟨iter.2 (Nat.le_refl _), ?_⟩
    obtain ⟨R3, g3⟩ := R1.exit R2 hD x2 (fun j m => (hs j m).1) hl
    refine q (.d (.list acc)) _ _ _ R3 ?_ (gr1.trans g3) (hend acc e2 hacc inv)
    exact .lst (hide_of (R1.fresh hD) hv) (DvA.le vw_sub _ _ dv)
end
section
variable {X : Cx} {Tb : List Addr} {elt tg iter : Expr} {scope : Scope} {pos : Pos} {fi : VIt} {b : VB} {t : VT} {fe : VF} {sl : List Nat} {e : Expr}
theorem ve_lc (h : PE X e (tLc (cI Tb fi) (cG Tb sl b) (cT Tb t) (cE Tb fe) sl)) : VE X Tb e (vLc fi b t fe sl) := PE.imp h fun σ H Q q => lc_sem q
/-- name = [.. for ..] -/
theorem vs_setLc {st : Stmt} {i : Nat} (h : PS X st (tAsg (tLc (cI Tb fi) (cG Tb sl b) (cT Tb t) (cE Tb fe) sl) (gName i))) : VS X Tb st (vAsg (vLc fi b t fe sl) (bName i)) :=
  vs_set (PS.imp h fun D σ H q => lc_sem q)
def vYes : VT := fun env k => k true env
theorem vts_nil : PTs X [] (cT Tb vYes) := ⟨fun pins s σ H Q I ⟨F, O, env, k, R, h, q⟩ => pts_nil.run pins s σ H Q I (q true env H R Gr.rfl h)⟩
end
end Sp
end

section
set_option maxHeartbeats 4000000
/-! all(is_amount(x) for x in xs). -/
namespace Sp
open PySem PySem.Spec PyProof.Rows L2
def isA : V → Bool
  | .int i => decide (0 ≤ i)
  | _ => false
/-- the text of is_amount, its places left open -/
def amountBody (p : Nat → Pos) : List Stmt :=
  [.Return (some (.BoolOp .And [.Call (.Name "is_whole" (p 0)) [.Name "thing" (p 1)] [] (p 2), .Compare (.Name "thing" (p 3)) [.GtE] [.Constant (.int 0) 0 (p 4)] (p 5)] (p 6))) (p 7)]
def amountScope : Scope := { kind := .function, names := [(Str.ofString "thing", .local), (Str.ofString "is_whole", .globalImplicit)], isGenerator := false, isCoroutine := false, more := [] }
theorem kps {a b c : Shared} (x : Keeps a b) (y : Keeps b c) : Keeps a c := by
  obtain ⟨h1, t1, rfl, k1⟩ := x
  obtain ⟨h2, t2, rfl, k2⟩ := y
  exact ⟨h2, t2, rfl, fun b o e => k2 b o (k1 b o e)⟩
theorem quiet_amount {X : Cx} {f fw : Addr} {kV doc pm cdv ct oc kV1 doc1 pm1 cdv1 ct1 oc1 : Value} {an od an1 od1 : Option Addr} {osl osl1 : Array (Option Value)} {pa pa1 : Arguments} {p p1 : Nat → Pos}
    (lk : X.K.lookup f = some ⟨oc, od, .func (PySem.W.fnOf "is_amount" "is_amount" pa (amountBody p) amountScope .none kV doc pm an cdv ct), osl⟩) (hcd : PySem.W.codeIn X.K cdv "is_amount" = true)
    (hbind : ∀ u : Value, bindArgs (PySem.W.fnOf "is_amount" "is_amount" pa (amountBody p) amountScope .none kV doc pm an cdv ct) ⟨[u], []⟩ = pure [(Str.ofString "thing", u)])
    (lk1 : X.K.lookup fw = some ⟨oc1, od1, .func (PySem.W.fnOf "is_whole" "is_whole" pa1 (wholeBody p1) wholeScope .none kV1 doc1 pm1 an1 cdv1 ct1), osl1⟩) (hcd1 : PySem.W.codeIn X.K cdv1 "is_whole" = true)
    (hbind1 : ∀ u : Value, bindArgs (PySem.W.fnOf "is_whole" "is_whole" pa1 (wholeBody p1) wholeScope .none kV1 doc1 pm1 an1 cdv1 ct1) ⟨[u], []⟩ = pure [(Str.ofString "thing", u)])
    (m1 : X.mg "isinstance" = none) (m2 : X.mg "int" = none) (m3 : X.mg "bool" = none) (mw : X.mg "is_whole" = some (.ref fw)) (kp : PySem.W.keepIn X.K (.ref fw) = true)
    {B : Around} {y : V} {v : Value} {pins : List (Addr × Obj)} {σ : L2.St} {H : Hp} {s t : Shared} (hh : B.handled = none) (hdp : B.depth + 2 < recursionLimit) (I : Inv X pins σ H s) (pl : Plain H y) (ry : RelV y v)
    (hk : ∀ b o, (∀ ps, H b ≠ some (.tbl ps)) → s.heap.get? b = some o → t.heap.get? b = some o) (E : Value → Shared → Prop) :
    wpAny (model X.prog X.w) B (call (.ref f) [v]) (fun u t' => u = .bool (isA y) ∧ Keeps t t') E t := by
  have hbase : ∀ b o, X.base.get? b = some o → t.heap.get? b = some o := fun b o e => hk b o (fun ps z => by rw [(I.bs b o e).2] at z; cases z) (I.bs b o e).1
  have KX : X.K.In t.heap := I.mod.kin.keeps hbase
  have lim : t.heap.NoLimit := I.mod.nolimit.keeps hbase
  refine wpAny_call ?_
  refine codeAny_call_function (by omega) (KX _ _ lk) rfl rfl rfl rfl (PySem.W.codeRec_of KX hcd) ?_
  rw [hbind v]
  refine wpAny_pure ?_
  refine wpAny_newFunctionEnv_cells rfl (fun z hz => .inl (by rw [List.mem_singleton.mp hz]; rfl)) fun env he s1 x => ?_
  subst he
  refine ⟨lim.keeps x.toInCall.keep, codeAny_func ?_⟩
  obtain ⟨h1, tk, rfl, k1⟩ := x.done
  have ns := x.toInCall.ns
  have g1 : h1.Ns mainGlobals X.mg := (I.mod.glob.keeps hbase).keeps k1
  have KX1 : X.K.In h1 := KX.keeps k1
  refine wpAny_execs_cons (thn (wpAny_Return_some (Q := fun f t' => f = .ret (.bool (isA y)) ∧ Keeps t t') ?_) fun f s2 q => ?_)
  · refine BoolOp_and ?_
    refine wpAny_Call_Name_kw (Calls.Name_function_global rfl rfl (Calls.loadGlobal_global g1 mw ?_) (by decide))
    refine PySem.W.callWith_K (h₀ := X.base) I.ok.mod.kin kp ?_ rfl rfl
    refine Calls.spliced_cons (wpAny_Name (wpAny_loadName_local rfl rfl ns rfl ?_) (by decide))
    refine Calls.spliced_nil ⟨KX1, ?_⟩
    refine thn (quiet_whole (B := B.deeper _) (t := { t with heap := h1, toks := tk }) lk1 hcd1 hbind1 m1 m2 m3 hh (show B.depth + 1 < recursionLimit by omega) I pl ry (fun b o n e => k1 b o (hk b o n e)) _) fun u t2 ⟨hu, kk⟩ => ?_
    subst hu
    refine wpAny_truthy_bool ?_
    cases y with
    | int i =>
      obtain ⟨ti, rfl⟩ := ry
      obtain ⟨h2, tk2, rfl, k2⟩ := kk
      show if true = true then _ else _
      rw [if_pos rfl]
      refine BoolOp_one (wpAny_Compare1 (wpAny_Name (wpAny_loadName_local rfl rfl (ns.keeps k2) rfl (wpAny_Constant_int (ge_int ?_))) (by decide)) (by rfl))
      exact ⟨rfl, h2, _, rfl, fun b o e => k2 b o (k1 b o e)⟩
    | non => exact ⟨rfl, kps ⟨h1, _, rfl, k1⟩ kk⟩
    | bl b => exact ⟨rfl, kps ⟨h1, _, rfl, k1⟩ kk⟩
    | str z => exact ⟨rfl, kps ⟨h1, _, rfl, k1⟩ kk⟩
    | byt z => exact ⟨rfl, kps ⟨h1, _, rfl, k1⟩ kk⟩
    | flt z => exact ⟨rfl, kps ⟨h1, _, rfl, k1⟩ kk⟩
    | ref a => exact ⟨rfl, kps ⟨h1, _, rfl, k1⟩ kk⟩
    | ty n => exact ⟨rfl, kps ⟨h1, _, rfl, k1⟩ kk⟩
  · obtain ⟨rfl, hkeep⟩ := q
    exact ⟨rfl, hkeep⟩
section
variable {X : Cx}
theorem elt_amount {f fw : Addr} {kV doc pm cdv ct oc kV1 doc1 pm1 cdv1 ct1 oc1 : Value} {an od an1 od1 : Option Addr} {osl osl1 : Array (Option Value)} {pa pa1 : Arguments} {p p1 : Nat → Pos} {scp : Scope} {nm : Str} {q1 q2 q3 : Pos}
    (lk : X.K.lookup f = some ⟨oc, od, .func (PySem.W.fnOf "is_amount" "is_amount" pa (amountBody p) amountScope .none kV doc pm an cdv ct), osl⟩) (hcd : PySem.W.codeIn X.K cdv "is_amount" = true)
    (hbind : ∀ u : Value, bindArgs (PySem.W.fnOf "is_amount" "is_amount" pa (amountBody p) amountScope .none kV doc pm an cdv ct) ⟨[u], []⟩ = pure [(Str.ofString "thing", u)])
    (lk1 : X.K.lookup fw = some ⟨oc1, od1, .func (PySem.W.fnOf "is_whole" "is_whole" pa1 (wholeBody p1) wholeScope .none kV1 doc1 pm1 an1 cdv1 ct1), osl1⟩) (hcd1 : PySem.W.codeIn X.K cdv1 "is_whole" = true)
    (hbind1 : ∀ u : Value, bindArgs (PySem.W.fnOf "is_whole" "is_whole" pa1 (wholeBody p1) wholeScope .none kV1 doc1 pm1 an1 cdv1 ct1) ⟨[u], []⟩ = pure [(Str.ofString "thing", u)])
    (m1 : X.mg "isinstance" = none) (m2 : X.mg "int" = none) (m3 : X.mg "bool" = none) (mw : X.mg "is_whole" = some (.ref fw)) (kpw : PySem.W.keepIn X.K (.ref fw) = true) (mf : X.mg "is_amount" = some (.ref f)) (kp : PySem.W.keepIn X.K (.ref f) = true)
    (hk : scp.kind = .function) (hw : scp.names.lookup ("is_amount" : Str) = some .globalImplicit) (hd : scp.names.lookup nm = some .local) (hnd : (nm == ("__debug__" : Str)) = false) {k : Nat} (hr : Room k X.A) :
    EltD X scp nm (.Call (.Name "is_amount" q1) [.Name nm q2] [] q3) Plain (fun y u => u = .bool (isA y)) := by
  intro ce B Er y v pins σ H s t m e1 e2 e3 hB hD hU I pl ry keep ns hm
  have hbase : ∀ b o, X.base.get? b = some o → t.heap.get? b = some o := fun b o e => keep b o (fun ps z => by rw [(I.bs b o e).2] at z; cases z) (I.bs b o e).1
  refine wpAny_Call_Name_kw (Calls.Name_function_global (by rw [e1]; exact hk) (show ce.scope.names.lookup _ = _ by rw [e1]; exact hw) (Calls.loadGlobal_global (by rw [e2]; exact I.mod.glob.keeps hbase) mf ?_) (by decide))
  refine PySem.W.callWith_K (h₀ := X.base) I.ok.mod.kin kp ?_ rfl rfl
  refine Calls.spliced_cons (wpAny_Name (wpAny_loadName_local (by rw [e1]; exact hk) (show ce.scope.names.lookup _ = _ by rw [e1]; exact hd) ns hm ?_) hnd)
  refine Calls.spliced_nil ⟨I.mod.kin.keeps hbase, ?_⟩
  exact quiet_amount lk hcd hbind lk1 hcd1 hbind1 m1 m2 m3 mw kpw hB (by have := hr.dp; omega) I pl ry keep Er
end
end Sp
end

section
set_option maxHeartbeats 1000000
/-! Chains, is None, in, isinstance, all(..). -/
namespace Sp
open PySem PySem.Spec PyProof.Rows L2
def vChain (o1 o2 : DOp) (fa fb fc : VF) : VF := fun env k => fa env fun w1 e1 => fb e1 fun w2 e2 => vTwo o1 (lk e2 w1) (lk e2 w2) fun z => match z with
  | .bool b => if b = true then fc e2 fun w3 e3 => vTwo o2 (lk e3 w2) (lk e3 w3) fun z => k (.d z) e3 else k (.d (.bool false)) e2
  | _ => False
section
variable {X : Cx} {Tb : List Addr} {a b c e : Expr} {fa fb fc fe : VF} {pos : Pos}
theorem chain_core {f g : Value → Value → Sem Value} {o1 o2 : DOp} {r r' : R2} (hv : ∀ (G H : Hp) (v1 v2 : V) (x y : PyData) (k : PyData → Prop) (Q : VK), View G H → Dl G H v1 x → Dl G H v2 y → o1 x y k → (∀ z v H', k z → Res G H v z H' → Q v H') → r v1 v2 H Q)
    (hw : ∀ (G H : Hp) (v1 v2 : V) (x y : PyData) (k : PyData → Prop) (Q : VK), View G H → Dl G H v1 x → Dl G H v2 y → o2 x y k → (∀ z v H', k z → Res G H v z H' → Q v H') → r' v1 v2 H Q)
    {σ : L2.St} {H : Hp} {Q : VK} (h : cE Tb (vChain o1 o2 fa fb fc) σ H Q) : tChain r r' (cE Tb fa) (cE Tb fb) (cE Tb fc) σ H Q := by
  obtain ⟨F, O, env, k, R, h, q⟩ := h
  refine ⟨F, O, env, _, R, h, fun w1 e1 v1 H1 R1 rw1 g1 h1 => ⟨F, O, e1, _, R1, h1, fun w2 e2 v2 H2 R2 rw2 g2 h2 => ?_⟩⟩
  obtain ⟨x, y, ex, ey, h2⟩ := two_of h2
  refine hv (vw F O H2) H2 v1 v2 x y _ _ view_vw (R2.dl (rw1.gr g2) ex) (R2.dl rw2 ey) h2 fun z v H' kz res => ?_
  obtain ⟨R3, rw3, g3⟩ := R2.res res
  cases z with
  | bool b =>
    cases rw3
    refine ⟨b, rfl, ?_⟩
    cases b with
    | true =>
      simp only [if_true] at kz
      rw [if_pos rfl]
      refine ⟨F, O, e2, _, R3, kz, fun w3 e3 v3 H3 R4 rw4 g4 h3 => ?_⟩
      obtain ⟨x, y, ex, ey, h3⟩ := two_of h3
      refine hw (vw F O H3) H3 v2 v3 x y _ _ view_vw (R4.dl (rw2.gr (g3.trans g4)) ex) (R4.dl rw4 ey) h3 fun z v H' kz res => ?_
      obtain ⟨R5, rw5, g5⟩ := R4.res res
      exact q (.d z) e3 v H' R5 rw5 (g1.trans (g2.trans (g3.trans (g4.trans g5)))) kz
    | false =>
      simp only [Bool.false_eq_true, if_false] at kz
      rw [if_neg Bool.false_ne_true]
      exact q (.d (.bool false)) e2 _ H' R3 (Dv.bl false) (g1.trans (g2.trans g3)) kz
  | _ => exact kz.elim
theorem ve_chain {op op' : CmpOp} {o1 o2 : DOp} (h1 : OpV X (compareOp op) o1) (h2 : OpV X (compareOp op') o2) (ha : VE X Tb a fa) (hb : VE X Tb b fb) (hc : VE X Tb c fc)
    (hm : lastMarks [op, op'] [b, c] = false := by with_unfolding_all rfl) : VE X Tb (.Compare a [op, op'] [b, c] pos) (vChain o1 o2 fa fb fc) := by
  obtain ⟨r, hr, hv⟩ := h1
  obtain ⟨r', hr', hw⟩ := h2
  exact PE.imp (pe_chain hr hr' ha hb hc hm) fun σ H Q h => chain_core (f := compareOp op) (g := compareOp op') hv hw h
def vTChain (o1 o2 : DOp) (fa fb fc : VF) : VT := fun env k => vChain o1 o2 fa fb fc env (wB k)
theorem vt_chain {op op' : CmpOp} {o1 o2 : DOp} (h1 : OpV X (compareOp op) o1) (h2 : OpV X (compareOp op') o2) (ha : VE X Tb a fa) (hb : VE X Tb b fb) (hc : VE X Tb c fc)
    (hm : lastMarks [op, op'] [b, c] = false := by with_unfolding_all rfl) : VTt X Tb (.Compare a [op, op'] [b, c] pos) (vTChain o1 o2 fa fb fc) := by
  obtain ⟨r, hr, hv⟩ := h1
  obtain ⟨r', hr', hw⟩ := h2
  refine PT.imp (pt_chain hr hr' ha hb hc hm) fun σ H Q ⟨F, O, env, k, R, h, q⟩ => ?_
  refine chain_core (f := compareOp op) (g := compareOp op') (fa := fa) (fb := fb) (fc := fc) (Tb := Tb) hv hw ⟨F, O, env, _, R, h, fun w env' v H' R' rw g h => ?_⟩
  cases w with
  | own i => exact h.elim
  | d x =>
    cases x with
    | bool b => cases rw; exact ⟨b, rfl, q b env' H' R' g h⟩
    | _ => exact h.elim
def dIsN : DOp := fun x _ k => k (.bool (match x with | .none => true | _ => false))
def dNotN : DOp := fun x _ k => k (.bool (match x with | .none => false | _ => true))
theorem Dl.isNone {G H : Hp} {v : V} {x : PyData} (h : Dl G H v x) : decide (v = .non) = (match x with | .none => true | _ => false) := by
  rcases h with h | ⟨a, _, _, rfl, rfl, _, _⟩
  · cases h <;> rfl
  · rfl
/-- x is None -/
theorem ov_isN' : ∃ r, OpR X (compareOp .Is) r ∧ ∀ (G H : Hp) (v1 v2 : V) (x y : PyData) (k : PyData → Prop) (Q : VK), View G H → Dl G H v1 x → Dl G H v2 y → (y = .none ∧ dIsN x y k) → (∀ z v H', k z → Res G H v z H' → Q v H') → r v1 v2 H Q :=
  ⟨_, op_isN, fun G H v1 v2 x y k Q w d1 d2 o q => by
    obtain ⟨rfl, o⟩ := o
    refine ⟨d2.none, ?_⟩
    rw [d1.isNone]
    refine q _ _ _ o ?_
    cases x <;> exact resF fun _ => .bl _⟩
theorem ov_isN : OpV X (compareOp .Is) (fun x y k => y = .none ∧ dIsN x y k) := ov_isN'
theorem ov_notN : OpV X (compareOp .IsNot) (fun x y k => y = .none ∧ dNotN x y k) :=
  ⟨_, op_notN, fun G H v1 v2 x y k Q w d1 d2 o q => by
    obtain ⟨rfl, o⟩ := o
    refine ⟨d2.none, ?_⟩
    rw [d1.isNone]
    refine q _ _ _ o ?_
    cases x <;> exact resF fun _ => .bl _⟩
/-! ### isinstance -/
def isInt : PyData → Bool
  | .int _ => true
  | .bool _ => true
  | _ => false
def isBool : PyData → Bool
  | .bool _ => true
  | _ => false
def isList : PyData → Bool
  | .list _ => true
  | _ => false
def isTuple : PyData → Bool
  | .tuple _ => true
  | _ => false
/-- what the kind n says of data -/
def KindOf (n : String) (p : PyData → Bool) : Prop := ∀ (K : PySem.W.Frag) (H : Hp) (v : V) (d : PyData), Dv H v d → ∃ T : String, TyX K H v (.type T) ∧ kitB T n = some (p d)
theorem kind_int : KindOf "int" isInt := fun K H v d h => by
  cases h with
  | non => exact ⟨_, .base .non, by decide +kernel⟩
  | bl b => exact ⟨_, .base (.bl b), (by show _ = some true; decide +kernel)⟩
  | int i => exact ⟨_, .base (.int i), (by show _ = some true; decide +kernel)⟩
  | str z => exact ⟨_, .base (.str z), (by show _ = some false; decide +kernel)⟩
  | lst e _ => exact ⟨_, .base (.lst e), (by show _ = some false; decide +kernel)⟩
  | tup e _ => exact ⟨_, .base (.tup e), (by show _ = some false; decide +kernel)⟩
  | dic e _ => exact ⟨_, .base (.dK e), (by show _ = some false; decide +kernel)⟩
theorem kind_bool : KindOf "bool" isBool := fun K H v d h => by
  cases h with
  | non => exact ⟨_, .base .non, by decide +kernel⟩
  | bl b => exact ⟨_, .base (.bl b), (by show _ = some true; decide +kernel)⟩
  | int i => exact ⟨_, .base (.int i), (by show _ = some false; decide +kernel)⟩
  | str z => exact ⟨_, .base (.str z), (by show _ = some false; decide +kernel)⟩
  | lst e _ => exact ⟨_, .base (.lst e), (by show _ = some false; decide +kernel)⟩
  | tup e _ => exact ⟨_, .base (.tup e), (by show _ = some false; decide +kernel)⟩
  | dic e _ => exact ⟨_, .base (.dK e), (by show _ = some false; decide +kernel)⟩
theorem kind_list : KindOf "list" isList := fun K H v d h => by
  cases h with
  | non => exact ⟨_, .base .non, by decide +kernel⟩
  | bl b => exact ⟨_, .base (.bl b), (by show _ = some false; decide +kernel)⟩
  | int i => exact ⟨_, .base (.int i), (by show _ = some false; decide +kernel)⟩
  | str z => exact ⟨_, .base (.str z), (by show _ = some false; decide +kernel)⟩
  | lst e _ => exact ⟨_, .base (.lst e), (by show _ = some true; decide +kernel)⟩
  | tup e _ => exact ⟨_, .base (.tup e), (by show _ = some false; decide +kernel)⟩
  | dic e _ => exact ⟨_, .base (.dK e), (by show _ = some false; decide +kernel)⟩
theorem kind_tuple : KindOf "tuple" isTuple := fun K H v d h => by
  cases h with
  | non => exact ⟨_, .base .non, by decide +kernel⟩
  | bl b => exact ⟨_, .base (.bl b), (by show _ = some false; decide +kernel)⟩
  | int i => exact ⟨_, .base (.int i), (by show _ = some false; decide +kernel)⟩
  | str z => exact ⟨_, .base (.str z), (by show _ = some false; decide +kernel)⟩
  | lst e _ => exact ⟨_, .base (.lst e), (by show _ = some false; decide +kernel)⟩
  | tup e _ => exact ⟨_, .base (.tup e), (by show _ = some true; decide +kernel)⟩
  | dic e _ => exact ⟨_, .base (.dK e), (by show _ = some false; decide +kernel)⟩
def vIsi (p : PyData → Bool) (fa : VF) : VF := fun env k => fa env fun w e => match lk e w with
  | some d => k (.d (.bool (p d))) e
  | none => False
theorem ve_isi {n : String} {p : PyData → Bool} {x : Expr} (hp : KindOf n p) (h : PE X x (tCB (rIsi X.K) (tCons (cE Tb fa) (tCons (tC (.ty n)) tNil)))) : VE X Tb x (vIsi p fa) :=
  PE.imp h fun σ H Q ⟨F, O, env, k, R, h, q⟩ => ⟨F, O, env, _, R, h, fun w e1 v H1 R1 r1 g1 h1 => by
    split at h1
    · rename_i d ed
      obtain ⟨T, ty, kt⟩ := hp X.K H1 v d (Dl.dv view_vw.toLe (R1.dl r1 ed))
      exact ⟨v, .ty n, _, _, p d, rfl, .ty _, ty, kit_ty kt, q (.d (.bool (p d))) e1 _ H1 R1 (Dv.bl _) g1 h1⟩
    · exact h1.elim⟩
/-- all(f(x) for x in xs) -/
def vAll (p : PyData → Bool) (fa : VF) : VF := fun env k => fa env fun w e => match lk e w with
  | some (.list xs) => k (.d (.bool (xs.all p))) e
  | _ => False
theorem all_dv {H : Hp} {pb : V → Bool} {p : PyData → Bool} (h : ∀ v d, Dv H v d → pb v = p d) : ∀ {vs : List V} {ds : List PyData}, DvA H vs ds → vs.all pb = ds.all p
  | _, _, .nil => rfl
  | _, _, .cons a b => by rw [List.all_cons, List.all_cons, h _ _ a, all_dv h b]
theorem plain_dv {H : Hp} {v : V} {d : PyData} (h : Dv H v d) : Plain H v := by
  cases h with
  | non => exact .non
  | bl b => exact .bl b
  | int i => exact .int i
  | str z => exact .str z
  | lst e _ => exact .lst e
  | tup e _ => exact .tup e
  | dic e _ => exact .dK e
theorem plain_all {H : Hp} : ∀ {vs : List V} {ds : List PyData}, DvA H vs ds → ∀ y ∈ vs, Plain H y
  | _, _, .nil, y, hy => nomatch hy
  | _, _, .cons a b, y, hy => by
    rcases List.mem_cons.mp hy with rfl | hy
    · exact plain_dv a
    · exact plain_all b y hy
theorem ve_all {x : Expr} {P : Addr} {pb : V → Bool} {p : PyData → Bool} (hP : P ∈ Tb) (hp : ∀ H v d, Dv H v d → pb v = p d) (h : PE X x (tAllG X.K P Plain pb (cE Tb fa))) : VE X Tb x (vAll p fa) :=
  PE.imp h fun σ H Q ⟨F, O, env, k, R, h, q⟩ => ⟨F, O, env, _, R, h, fun w e1 v H1 R1 r1 g1 h1 => by
    split at h1
    · rename_i xs ed
      obtain ⟨a, vs, rfl, ha, dv⟩ := (R1.dl r1 ed).list view_vw
      have dH := DvA.le view_vw.toLe _ _ dv
      refine ⟨a, vs, rfl, sq ha, plain_all dH, R1.tb P hP, fun H2 tb => ?_⟩
      rw [all_dv (hp H1) dH]
      obtain ⟨R2, g2⟩ := R1.grow (Ex.tabbed (R1.tb P hP) tb)
      exact q (.d (.bool (xs.all p))) e1 _ H2 R2 (Dv.bl _) (g1.trans g2) h1
    · exact h1.elim⟩
/-- a written global number -/
theorem ve_glob {i : Int} (h : PE X e (tC (.int i))) : VE X Tb e (vC (.int i)) := ve_c h fun _ => .int i
end
end Sp
end

section
set_option maxHeartbeats 1000000
/-! The law's own loop over its cells: each draws a cask of its own. -/
namespace Sp
open PySem PySem.Spec PyProof.Rows L2
/-- a comprehension that makes the list L -/
theorem lc_map {n : Nat} {it : Nat → Option PyData} {b : VB} {t : VT} {fe : VF} {sl : List Nat} {e1 : En} {k : W → En → Prop} (L : List PyData) (hl : L.length = n) (hz : n ≤ sizeLine) (hs : (sl.all fun j => !isOwn e1[j]? && decide (j < e1.length)) = true)
    (hst : ∀ (i : Nat) (x y : PyData) (Z : PyData → En → Prop), i < n → it i = some x → L[i]? = some y → (∀ e4, unset e4 sl = unset e1 sl → Z y e4) → b x (unset e1 sl) fun e2 => t e2 fun c e3 => if c = true then fe e3 (vD Z) else False)
    (hk : k (.d (.list L)) (back e1 (unset e1 sl) sl))
    (hm : ∀ (P Q : Bool → En → Prop), (∀ c e, P c e → Q c e) → ∀ e, t e P → t e Q) (hmf : ∀ (x : PyData) (P Q : En → Prop), (∀ e, P e → Q e) → ∀ e, b x e P → b x e Q) : LcGoal n it b t fe sl e1 k := by
  refine ⟨⟨hz, hs⟩, fun i acc e => e = unset e1 sl ∧ acc = L.take i, ⟨rfl, rfl⟩, ?_, ?_⟩
  · rintro i x acc e hi hx _ ⟨rfl, rfl⟩
    have hy : L[i]? = some (L[i]'(by omega)) := List.getElem?_eq_getElem _
    refine hmf x _ _ (fun e2 h => hm _ _ (fun c e3 h => ?_) e2 h) _ (hst i x _ (fun y e4 => unset e4 sl = unset e1 sl ∧ L.take i ++ [y] = L.take (i + 1)) hi hx hy fun e4 h4 => ⟨h4, (take_succ hy).symm⟩)
    cases c with
    | true =>
      rw [if_pos rfl] at h ⊢
      exact h
    | false =>
      rw [if_neg Bool.false_ne_true] at h
      exact h.elim
  · rintro acc e _ ⟨rfl, rfl⟩
    rw [← hl, List.take_length]
    exact hk
theorem bName_mono {i : Nat} : ∀ (x : PyData) (P Q : En → Prop), (∀ e, P e → Q e) → ∀ e, bName i x e P → bName i x e Q := fun x P Q h e z => ⟨z.1, h _ z.2⟩
theorem yes_mono : ∀ (P Q : Bool → En → Prop), (∀ c e, P c e → Q c e) → ∀ e, vYes e P → vYes e Q := fun P Q h e z => h _ _ z
/-- [f(x) for x in ..] -/
theorem lc_mapN {n : Nat} {it : Nat → Option PyData} {j : Nat} {fe : VF} {e1 : En} {k : W → En → Prop} (L : List PyData) (hl : L.length = n) (hz : n ≤ sizeLine) (hs : ([j].all fun j => !isOwn e1[j]? && decide (j < e1.length)) = true)
    (hst : ∀ (i : Nat) (x y : PyData) (Z : PyData → En → Prop), i < n → it i = some x → L[i]? = some y → (∀ e4, unset e4 [j] = unset e1 [j] → Z y e4) → fe ((unset e1 [j]).set j (.d x)) (vD Z))
    (hk : k (.d (.list L)) (back e1 (unset e1 [j]) [j])) : LcGoal n it (bName j) vYes fe [j] e1 k :=
  lc_map L hl hz hs (fun i x y Z hi hx hy hZ => ⟨by
    have := hs
    simp only [List.all_cons, List.all_nil, Bool.and_true, Bool.and_eq_true, decide_eq_true_eq] at this
    rw [unset_len]
    exact this.2, iteT (B := False) (hst i x y Z hi hx hy hZ)⟩) hk yes_mono bName_mono
theorem rng_at {lo : Int} {n i : Nat} {x : PyData} (h : rngAt lo n i = some x) : x = .int (lo + i) ∧ i < n := by
  unfold rngAt at h
  split at h
  · cases h
    exact ⟨rfl, by assumption⟩
  · cases h
theorem enum_at {xs : List PyData} {i : Nat} {x : PyData} (h : enumAt xs i = some x) : ∃ y, xs[i]? = some y ∧ x = .tuple [.int (i : Nat), y] := by
  unfold enumAt at h
  cases e : xs[i]? with
  | none => rw [e] at h; cases h
  | some y => rw [e] at h; cases h; exact ⟨y, rfl, rfl⟩
theorem cutD_to {xs : List PyData} {j : Nat} (h : j ≤ xs.length) : cutD xs none (some (j : Int)) = xs.take j := by
  have e1 : HT.sIx xs.length 0 none = 0 := rfl
  have e2 : HT.sIx xs.length xs.length (some (j : Int)) = j := by
    simp only [HT.sIx]
    repeat' split
    all_goals omega
  unfold cutD
  rw [e1, e2, List.drop_zero, Nat.sub_zero]
theorem cutD_from {xs : List PyData} {j : Nat} (h : j ≤ xs.length) : cutD xs (some (j : Int)) none = xs.drop j := by
  have e1 : HT.sIx xs.length xs.length none = xs.length := rfl
  have e2 : HT.sIx xs.length 0 (some (j : Int)) = j := by
    simp only [HT.sIx]
    repeat' split
    all_goals omega
  unfold cutD
  rw [e1, e2, List.take_of_length_le]
  rw [List.length_drop]
  omega
theorem cutD_mid {xs : List PyData} {i j : Nat} (h1 : i ≤ j) (h : j ≤ xs.length) : cutD xs (some (i : Int)) (some (j : Int)) = (xs.drop i).take (j - i) := by
  have e1 : HT.sIx xs.length xs.length (some (j : Int)) = j := by
    simp only [HT.sIx]
    repeat' split
    all_goals omega
  have e2 : HT.sIx xs.length 0 (some (i : Int)) = i := by
    simp only [HT.sIx]
    repeat' split
    all_goals omega
  unfold cutD
  rw [e1, e2]
theorem shaped_il (ns : List Int) : SeqAt.shaped (il ns) = true := (sh_pdI ns).shaped (by decide)
theorem eqv_il (ns : List Int) : PyData.eqv (il ns) (il ns) = true := (sh_pdI ns).refl
/-- equal lists are not unlike -/
theorem ne_same {ns : List Int} {A B : Prop} (h : A) : (SeqAt.shaped (il ns) = true ∧ SeqAt.shaped (il ns) = true) ∧ if PyData.eqv (il ns) (il ns) = false then B else A := by
  rw [eqv_il, if_neg (by decide)]
  exact ⟨⟨shaped_il _, shaped_il _⟩, h⟩
theorem flat_rep {n : Nat} {x : PyData} : (List.replicate n [x]).flatten = List.replicate n x := by
  induction n with
  | zero => rfl
  | succ n ih => rw [List.replicate_succ, List.replicate_succ, List.flatten_cons, ih]; rfl
theorem map_rep {n : Nat} {x : Int} : List.replicate n (PyData.int x) = (List.replicate n x).map .int := by rw [List.map_replicate]
/-- the law's promise -/
def spLawV (Tb : List Addr) (K : PySem.W.Frag) : Sp := fun vs H Q _ => ∃ (a : Addr) (ns : List Int), vs = [.ref a] ∧ SqL K H a (ns.map V.int) ∧ ns.length ≤ 63 ∧ (∀ T ∈ Tb, GxR.TabG H T) ∧ ∀ H', Q (.bl true) H'
/-- a cask is made of the script and a number -/
def spMake (K : PySem.W.Frag) : Sp := fun vs H Q _ => ∃ (l : Addr) (ns : List Int) (k : Int), vs = [.ref l, .int k] ∧ SqL K H l (ns.map V.int) ∧ 0 ≤ k ∧ k ≤ 100 ∧ ∀ p H', Ex [] H H' → H p = none → CaskAt H' p 0 → Q (.ref p) H'
theorem rep_law {Tb : List Addr} {H1 H2 : Hp} {a c : Addr} {i : Int} {σ : L2.St} {m : Nat} (h0 : σ[0]? = some (some (.ref a))) (h1 : σ[1]? = some (some (.int i))) (h2 : σ[2]? = some (some (.ref c))) (hl : σ.length = m + 3)
    (e : Ex [] H1 H2) (nc : H1 c = none) (k : CaskAt H2 c 0) (t : ∀ T ∈ Tb, GxR.TabG H2 T) :
    Rep Tb ⟨H1, [], fun _ => False, []⟩ (fun j => if j = 2 then some c else none) σ H2 (.r (.ref a) :: .d (.int i) :: .c c 0 :: List.replicate m .u) := by
  have ow : ∀ {j b}, (fun j => if j = 2 then some c else none : Ow) j = some b → j = 2 ∧ b = c := fun {j b} e => by
    by_cases z : j = 2
    · simp [z] at e
      exact ⟨z, e.symm⟩
    · simp [z] at e
  refine ⟨e, t, by simp [hl], fun j s v e1 e2 => ?_, fun _ z => z.elim, fun j b e1 => ?_, fun j b e1 => ?_, fun _ _ _ z => z.elim, fun j l b e1 e2 => ?_, fun _ z => nomatch z⟩
  · match j, e1, e2 with
    | 0, e1, e2 =>
      cases e1
      rw [h0] at e2
      cases e2
      rfl
    | 1, e1, e2 =>
      cases e1
      rw [h1] at e2
      cases e2
      exact ⟨_, rfl, .int i⟩
    | 2, e1, e2 =>
      cases e1
      rw [h2] at e2
      cases e2
      exact ⟨rfl, rfl, k⟩
    | j + 3, e1, e2 =>
      have e1 : (List.replicate m SV.u)[j]? = some s := e1
      rw [List.getElem?_replicate] at e1
      split at e1
      · cases e1
        trivial
      · cases e1
  · obtain ⟨rfl, rfl⟩ := ow e1
    exact .inr nc
  · obtain ⟨rfl, rfl⟩ := ow e1
    exact .inr ⟨0, rfl⟩
  · obtain ⟨rfl, rfl⟩ := ow e1
    exact (ow e2).1.symm
theorem law_loop {K : PySem.W.Frag} {Tb : List Addr} {g : VG} {te : TE} {σ : L2.St} {H : Hp} {D : Ends} {a : Addr} {ns : List Int} {m : Nat} (h0 : σ[0]? = some (some (.ref a))) (hl : σ.length = m + 3) (hS : SqL K H a (ns.map V.int)) (hT : ∀ T ∈ Tb, GxR.TabG H T)
    (hte : ∀ (σ : L2.St) (Q : VK), σ[0]? = some (some (.ref a)) → (∀ j : Int, 0 ≤ j → j ≤ 50 → Q (.int j) H) → te σ H Q)
    (hg : ∀ (c : Addr) (i : Int), g { nx := fun e => e[0]? = some (.r (.ref a)) ∧ e.length = m + 3, ct := fun e => e[0]? = some (.r (.ref a)) ∧ e.length = m + 3, rt := fun _ _ => False } (.r (.ref a) :: .d (.int i) :: .c c 0 :: List.replicate m .u))
    (hq : ∀ H', D.rt (.bl true) H') :
    tSeq (tFor (iRng1 (tCons te tNil)) (gName 1) (tSeq (tAsg (tCall (spMake K) [] E0 (tCons (tVar 0) (tCons (tVar 1) tNil))) (gName 2)) (cS Tb g))) (tRet (tC (.bl true))) D σ H := by
  refine hte σ _ h0 fun j j0 j6 => ?_
  · refine ⟨j, rfl, by omega, by omega, for_range (lo := 0) (n := _) (fun i σ H3 => σ[0]? = some (some (.ref a)) ∧ σ.length = m + 3 ∧ Ex [] H H3) ⟨h0, hl, Ex.refl _⟩ ?_ ?_⟩
    · rintro i σ1 H1 hi ⟨g0, gl, e1⟩
      have s0 : (σ1.set 1 (some (.int (0 + (i : Int)))))[0]? = some (some (.ref a)) := by rw [List.getElem?_set_ne (by decide)]; exact g0
      have s1 : (σ1.set 1 (some (.int (0 + (i : Int)))))[1]? = some (some (.int (0 + (i : Int)))) := List.getElem?_set_self (by omega)
      refine ⟨_, s0, _, s1, a, ns, 0 + (i : Int), rfl, e1.seq nm hS, by omega, by omega, fun c H2 e2 nc k2 => ?_⟩
      refine ⟨_, _, _, _, rep_law (m := m) (a := a) (c := c) (i := 0 + (i : Int)) ?_ ?_ ?_ ?_ e2 nc k2 (fun T h => e2.tab T (e1.tab T (hT T h))), hg c _, ⟨fun O σ H4 env R h => ?_, fun O σ H4 env v x R d h => h.elim, fun _ _ _ _ _ h => h.elim, fun O σ H4 env R h => ?_, fun _ _ _ _ _ _ _ _ _ _ _ _ h => h.elim⟩⟩
      · rw [List.getElem?_set_ne (by decide)]
        exact s0
      · rw [List.getElem?_set_ne (by decide)]
        exact s1
      · exact List.getElem?_set_self (by rw [List.length_set]; omega)
      · rw [List.length_set, List.length_set]
        exact gl
      · obtain ⟨v, hv, rv⟩ := R.slot h.1
        cases rv
        exact ⟨hv, R.len.symm.trans h.2, e1.trans R.ex⟩
      · obtain ⟨v, hv, rv⟩ := R.slot h.1
        cases rv
        exact ⟨hv, R.len.symm.trans h.2, e1.trans R.ex⟩
    · rintro σ1 H1 ⟨g0, gl, e1⟩
      exact hq H1
end Sp
end

section
set_option maxHeartbeats 1000000
/-! all(..), any(..) of a list, isinstance of two kinds, pop of a place, a list of one's own made by list(..). -/
namespace Sp
open PySem PySem.Spec PyProof.Rows L2
section
variable {X : Cx} {Tb : List Addr} {a b c e : Expr} {fa fb fc fe : VF} {pos : Pos} {fs : VA} {st : Stmt}
def dBools (xs : List PyData) (k : List Bool → Prop) : Prop := ∃ bs : List Bool, xs = bs.map .bool ∧ k bs
theorem DvA.bools {G : Hp} : ∀ {vs : List V} {bs : List Bool}, DvA G vs (bs.map .bool) → vs = bs.map V.bl
  | [], [], _ => rfl
  | _, n :: ns, h => by
    cases h with
    | cons a b =>
      cases a
      rw [b.bools]
      rfl
  | _ :: _, [], h => by cases h
def dAll : DFn
  | [.list xs], k => dBools xs fun bs => k (.bool (bs.all id))
  | _, _ => False
def dAny : DFn
  | [.list xs], k => dBools xs fun bs => k (.bool (bs.any id))
  | _, _ => False
theorem cv_all (hc : X.calm = true) : CallV X (.builtin "all") dAll := ⟨_, cr_all hc, fun G H vs xs k Q w d o q => by
  unfold dAll at o
  split at o
  · obtain ⟨v, rfl, d1⟩ := d.one
    obtain ⟨p, vs, rfl, hp, dv⟩ := d1.list w
    obtain ⟨bs, rfl, o⟩ := o
    rw [dv.bools] at hp
    exact ⟨p, bs, rfl, sq hp, q _ _ _ o (resF fun _ => .bl _)⟩
  · exact o.elim⟩
theorem cv_any (hc : X.calm = true) : CallV X (.builtin "any") dAny := ⟨_, cr_any hc, fun G H vs xs k Q w d o q => by
  unfold dAny at o
  split at o
  · obtain ⟨v, rfl, d1⟩ := d.one
    obtain ⟨p, vs, rfl, hp, dv⟩ := d1.list w
    obtain ⟨bs, rfl, o⟩ := o
    rw [dv.bools] at hp
    exact ⟨p, bs, rfl, sq hp, q _ _ _ o (resF fun _ => .bl _)⟩
  · exact o.elim⟩
/-- isinstance(x, (list, tuple)) -/
def isLT (d : PyData) : Bool := isList d || isTuple d
theorem ve_isiLT {x : Expr} (h : PE X x (tCB (rIsiT X.K) (tCons (cE Tb fa) (tCons (tTup (tCons (tC (.ty "list")) (tCons (tC (.ty "tuple")) tNil))) tNil)))) : VE X Tb x (vIsi isLT fa) :=
  PE.imp h fun σ H Q ⟨F, O, env, k, R, h, q⟩ => ⟨F, O, env, _, R, h, fun w e1 v H1 R1 r1 g1 h1 => by
    split at h1
    · rename_i d ed
      refine ⟨by show 2 ≤ sizeLine; decide, fun p hp => ?_⟩
      have dd := Dl.dv view_vw.toLe (R1.dl r1 ed)
      obtain ⟨R2, g2⟩ := R1.grow (Ex.new (C := []) (o := .tup [.ty "list", .ty "tuple"]) hp)
      have d2 : Dv (upd H1 p (.tup [.ty "list", .ty "tuple"])) v d := Dv.le (Le.new hp) _ _ dd
      have fin : Q (.bl (isLT d)) (upd H1 p (.tup [.ty "list", .ty "tuple"])) := q (.d (.bool (isLT d))) e1 _ _ R2 (Dv.bl _) (g1.trans g2) h1
      have cls : Paired ClsV [V.ty "list", V.ty "tuple"] [Value.type "list", Value.type "tuple"] := .cons (.ty _) (.cons (.ty _) .nil)
      have go : ∀ {T : String} {b1 b2 : Bool}, TyX X.K (upd H1 p (.tup [.ty "list", .ty "tuple"])) v (.type T) → kitB T "list" = some b1 → kitB T "tuple" = some b2 → isLT d = (b1 || b2) →
          ∃ (x : V) (tp : Addr) (cs : List V) (t : Value) (us : List Value) (b : Bool), [v, .ref p] = [x, .ref tp] ∧ (upd H1 p (.tup [.ty "list", .ty "tuple"])) tp = some (.tup cs) ∧ Paired ClsV cs us ∧ TyX X.K (upd H1 p (.tup [.ty "list", .ty "tuple"])) x t ∧ PySem.W.kitAny X.K t us = some b ∧ Q (.bl b) (upd H1 p (.tup [.ty "list", .ty "tuple"])) := fun {T b1 b2} ty k1 k2 eb => by
        refine ⟨v, p, _, _, _, b1 || b2, rfl, upd_same, cls, ty, kitAny_cons (kit_ty k1) (fun z => ?_) (fun z => by rw [z]; rfl), by rw [← eb]; exact fin⟩
        refine kitAny_cons (kit_ty k2) (fun z2 => ?_) (fun z2 => by rw [z2]; cases b1 <;> rfl)
        rw [z, z2]
        rfl
      cases d2 with
      | non => exact go (.base .non) (by decide +kernel) (by decide +kernel) rfl
      | bl b => exact go (.base (.bl b)) (by show _ = some false; decide +kernel) (by show _ = some false; decide +kernel) rfl
      | int i => exact go (.base (.int i)) (by show _ = some false; decide +kernel) (by show _ = some false; decide +kernel) rfl
      | str z => exact go (.base (.str z)) (by show _ = some false; decide +kernel) (by show _ = some false; decide +kernel) rfl
      | lst e _ => exact go (.base (.lst e)) (by show _ = some true; decide +kernel) (by show _ = some false; decide +kernel) rfl
      | tup e _ => exact go (.base (.tup e)) (by show _ = some false; decide +kernel) (by show _ = some true; decide +kernel) rfl
      | dic e _ => exact go (.base (.dK e)) (by show _ = some false; decide +kernel) (by show _ = some false; decide +kernel) rfl
    · exact h1.elim⟩
/-- name = list(..): an own list -/
def vOwnL (i : Nat) (fs : VA) : VG := fun E env => fs env fun ws e => vDs (fun xs => match xs with
  | [.list ys] => i < e.length ∧ E.nx (e.set i (.o ys))
  | [.tuple ys] => i < e.length ∧ E.nx (e.set i (.o ys))
  | _ => False) (dsOf ws)
theorem vs_ownL {i : Nat} (h : PS X st (tAsg (tCB (fun xs H Q => ∃ p ys, xs = [.ref p] ∧ (SqL X.K H p ys ∨ SqT X.K H p ys) ∧ ∀ l, H l = none → Q (.ref l) (upd H l (.lst ys))) (cA Tb fs)) (gName i))) : VS X Tb st (vOwnL i fs) :=
  PS.imp h fun D σ H ⟨F, O, env, E, R, h, C⟩ => ⟨F, O, env, _, R, h, fun ws e1 vs H1 R1 r1 gr1 h1 => by
    obtain ⟨ds, ed, h1⟩ := vDs_of h1
    have d := dsOf_dv r1 ed
    split at h1
    · cases d with
      | cons d1 d2 =>
        cases d2
        cases d1 with
        | @lst p us _ ep du => exact ⟨p, us, rfl, .inl (sq (hide_some ep).2), fun l hl => C.nx _ _ _ _ (R1.make h1.1 hl du) h1.2⟩
    · cases d with
      | cons d1 d2 =>
        cases d2
        cases d1 with
        | @tup p us _ ep du => exact ⟨p, us, rfl, .inr (sqt (hide_some ep).2), fun l hl => C.nx _ _ _ _ (R1.make h1.1 hl du) h1.2⟩
    · exact h1.elim⟩
/-- xs.pop(k) -/
def vPopAt (i : Nat) (fs : VA) : VF := fun env k => match env[i]? with
  | some (.o _) => fs env fun ws e => (match dsOf ws, e[i]? with
    | some [.int n], some (.o xs) => ∃ (j : Nat) (x : PyData), n = (j : Int) ∧ xs.length ≤ 1000000 ∧ xs[j]? = some x ∧ k (.d x) (e.set i (.o (xs.eraseIdx j)))
    | _, _ => False)
  | _ => False
theorem DvA.erase {G : Hp} : ∀ {vs : List V} {ds : List PyData} (n : Nat), DvA G vs ds → DvA G (vs.eraseIdx n) (ds.eraseIdx n)
  | _, _, _, .nil => .nil
  | _, _, 0, .cons _ b => b
  | _, _, n + 1, .cons a b => .cons a (b.erase n)
theorem ve_popAt {i : Nat} (h : PE X e (tBM X.K "list" rPopAt (tVar i) (cA Tb fs))) : VE X Tb e (vPopAt i fs) :=
  PE.imp h fun σ H Q ⟨F, O, env, k, R, h, q⟩ => by
    unfold vPopAt at h
    split at h
    · rename_i zs ez
      obtain ⟨v, hv, a, vs, rfl, ho, ha, _⟩ := R.slot ez
      refine ⟨_, hv, ty_list ha, F, O, env, _, R, h, fun ws e1 us H1 R1 r1 gr1 h1 => ?_⟩
      split at h1
      · rename_i n xs ed ex
        have d := dsOf_dv r1 ed
        cases d with
        | cons d1 d2 =>
          cases d2
          cases d1
          obtain ⟨v2, hv2, b', vs, rfl, hb', hl, dl⟩ := R1.slot ex
          rw [ho] at hb'
          cases hb'
          obtain ⟨j, x, rfl, hle, hx, h1⟩ := h1
          obtain ⟨w, hw, dw⟩ := dl.get hx
          have hj : j < xs.length := (List.getElem?_eq_some_iff.mp hx).1
          obtain ⟨R2, g2⟩ := R1.write ex ho hl (dl.erase j)
          refine ⟨a, vs, j, j, w, rfl, rfl, hl, by omega, by omega, ?_, hw, q (.d x) _ _ _ R2 (Dv.le g2.le _ _ dw) (gr1.trans g2) h1⟩
          rw [dl.len]
          have n0 : ¬ ((j : Int) < 0) := by omega
          simp [seqIndex?, hj, n0]
      · exact h1.elim
    · exact h.elim
end
end Sp
end

section
set_option maxHeartbeats 4000000
/-! A generator expression over a tuple, as SpGen's over a list. -/
namespace Sp
open PySem PySem.Spec PyProof.Rows L2
section
variable {X : Cx} {pins : List (Addr × Obj)} {σ : L2.St} {H : Hp} {s : Shared}
theorem gen_tuple {cd P : Addr} {el it : Expr} {nm : Str} {pn gp : Pos} {scp : Scope} {te : TE} {k : Nat} {Pv : Hp → V → Prop} {G : V → Value → Prop} {Q' : Value → Shared → Prop} {R : Addr → List V → Hp → Prop}
    (room : Room k X.A) (TB : GxR.TabB X.base X.mg cd P) (hcd : X.env.code = .ref cd) (S : GxR.GenS X.env scp nm) (hit : PE X it te) (hel : EltD X scp nm el Pv G)
    (hfold : ∀ v, genFold it X.env v = pure v) (I : Inv X pins σ H s)
    (h : te σ H fun v H1 => ∃ (l : Addr) (ys : List V), v = .ref l ∧ SqT X.K H1 l ys ∧ (∀ y ∈ ys, Pv H1 y) ∧ GxR.TabG H1 P ∧ R l ys H1)
    (hQ : ∀ l ys H1 g z, R l ys H1 → ReadyD X pins σ H1 P ys G g z → Q' (.ref g) z) :
    wpAny (model X.prog X.w) X.A (eval (.GeneratorExp el [⟨.Name nm pn, it, [], 0⟩] scp gp) X.env) Q' X.xe s := by
  refine wpAny_GeneratorExp_walksQD room.hd S.co (closure_ok S.free) S.cell S.dot S.loc S.kind (by have q := room.dp; omega) ?_ hfold
  refine thn (hit.run pins s σ H _ I h) fun xv a ⟨v, H1, J, rv, q⟩ => ?_
  obtain ⟨l, ys, rfl, hl, hP, ⟨ps, hT, tok⟩, hR⟩ := q
  obtain rfl : xv = Value.ref l := rv
  obtain ⟨its, rits, hlist, hzz⟩ := J.tuple hl
  have isL : a.heap.IsTuple l its.toArray := hlist
  have hlen : its.length = ys.length := by rw [← rits.length]
  have hat : ∀ (i : Nat) (v : Value), its.toArray[i]? = some v → ∃ y, ys[i]? = some y ∧ RelV y v := fun i v hv => by
    have hv2 : its[i]? = some v := by simpa using hv
    have hi : i < ys.length := by have := (List.getElem?_eq_some_iff.mp hv2).1; omega
    obtain ⟨u, hu, ru⟩ := rits.get (List.getElem?_eq_getElem hi)
    rw [hv2] at hu
    cases hu
    exact ⟨_, List.getElem?_eq_getElem hi, ru⟩
  refine wpAny_pyIter_tuple isL ?_
  generalize hob : ({ cls := .type "tuple_iterator", data := .fields #[.ref l, .int 0 0] } : Obj) = ob
  have itr : (a.heap.push ob).IsTupleIter a.heap.objs.size l 0 := by
    rw [← hob]
    exact ⟨_, Heap.get?_push_size _ rfl, rfl, rfl⟩
  have llt : l < a.heap.objs.size := by
    obtain ⟨_, e, _⟩ := _root_.id isL
    exact Heap.lt_size e
  have tabA : a.heap.get? P = some { cls := .none, data := .fields ps } := J.hok P _ hT
  have Plt : P < a.heap.objs.size := Heap.lt_size tabA
  have tabB : (a.heap.push ob).get? P = some { cls := .none, data := .fields ps } := Heap.get?_push_of_some _ tabA
  have codeHd : PySem.W.CodeHd (a.heap.push ob) cd P := TB.code.keeps fun b u e => Heap.get?_push_of_some _ (J.bk b u e)
  have lim : (a.heap.push ob).NoLimit := J.nolimit.push ob
  have goOn : ∀ (code : Value) (hh : Heap) (tk : Nat) (qs : Array Value), Heap.ExtBut P (a.heap.push ob) hh → (a.heap.push ob).objs.size ≤ hh.objs.size → hh.get? P = some { cls := .none, data := .fields qs } → (∃ more, qs = ps ++ more) → TriplesOk qs.toList →
      wpAny (model X.prog X.w) X.A (builtinsFor X.env.globals X.env.builtins) (fun bi z =>
        ∃ Ia fp wr n₀ Pf St₀ pz F, Value.ref a.heap.objs.size = .ref Ia ∧ (∀ A' : Around, A'.handled = none → Walks X.prog X.w A' Ia fp wr n₀ Pf St₀) ∧ St₀ 0 z.heap ∧ (∀ b ∈ fp, b < z.heap.objs.size) ∧ z.heap.NoLimit ∧ cStatics ∉ wr ∧
          (∀ hr : Heap, (∀ b o, z.heap.get? b = some o → hr.get? b = some o) →
            QuietGenD X.prog X.w (genEnv scp (cloFrom X.env.cells scp.names []) z.heap.objs.size code bi X.env) nm [] el (List.range z.heap.objs.size) wr Pf pz F hr (X.A.depth + 1) (X.A.units + 8)) ∧
          (∀ g h5 tk5 gs, gs.bare = true → z.heap.objs.size < g → h5.objs.size = g + 1 → (∀ b o, z.heap.get? b = some o → h5.get? b = some o) →
            WalksS X.prog X.w X.A.in4 g (g :: z.heap.objs.size :: List.range z.heap.objs.size) (z.heap.objs.size :: wr) (GenOnlyQ z.gens.size) (passing pz n₀ 0).length
              (fun j y => ∃ i, (passing pz n₀ 0)[j]? = some i ∧ F i y) (GenAt X.prog X.w X.A.in4 g z.gens.size z.heap.objs.size (List.range z.heap.objs.size) wr pz n₀ F) →
            GenAt X.prog X.w X.A.in4 g z.gens.size z.heap.objs.size (List.range z.heap.objs.size) wr pz n₀ F 0 { z with gens := z.gens.push gs, toks := tk5, heap := h5 } →
            Q' (.ref g) { z with gens := z.gens.push gs, toks := tk5, heap := h5 })) X.xe { a with heap := hh, toks := tk } := by
    intro code hh tk qs ext big tabC hmore tok2
    obtain ⟨bm, obm, e1, e2, e3, e4, e5, e6, e7, e8⟩ := TB.bm
    have nsP : cStatics ≠ P := fun e => by
      obtain ⟨_, ⟨o', es, ep, ho, hd, _⟩, _⟩ := J.nolimit
      rw [e, tabA] at ho
      cases ho
      cases hd
    have csl : cStatics < a.heap.objs.size := let ⟨_, q, _⟩ := J.nolimit; q.lt
    have szz : (a.heap.push ob).objs.size = a.heap.objs.size + 1 := Heap.size_push ..
    have old : ∀ b u, b ≠ P → a.heap.get? b = some u → hh.get? b = some u := fun b u nb e => ext b u nb (Heap.get?_push_of_some _ e)
    refine wpAny_builtinsFor (m := X.mg) (by rw [J.ok.glob]; exact ((J.mod.glob.keeps J.bk).push ob).extBut ext TB.gP) e1 e2 (old _ _ e4 (J.bk _ _ e5)) e6 e7 e8 ?_
    have lP : l ≠ P := fun e => by
      obtain ⟨_, q, _, _, qd⟩ := _root_.id isL
      rw [e, tabA] at q
      cases q
      cases qd
    have isL2 : hh.IsTuple l its.toArray := by
      obtain ⟨o, q, r⟩ := _root_.id isL
      exact ⟨o, old _ _ lP q, r⟩
    have itr2 : hh.IsTupleIter a.heap.objs.size l 0 := itr.at fun u e => ext _ u (Nat.ne_of_gt Plt) e
    refine ⟨a.heap.objs.size, [a.heap.objs.size, l], [a.heap.objs.size], its.toArray.size, (fun i v => its.toArray[i]? = some v), (fun i hp => hp.IsTupleIter a.heap.objs.size l i ∧ hp.IsTuple l its.toArray), (fun _ => true),
      (fun i u => ∃ y, ys[i]? = some y ∧ G y u), rfl, (fun A' hA => Walks.tuple hA _ _ (Nat.ne_of_lt llt) _), ⟨itr2, isL2⟩, ?_, lim.extBut ext nsP, ?_, ?_, ?_⟩
    · intro b hb
      have big2 : a.heap.objs.size < hh.objs.size := by omega
      rcases List.mem_cons.mp hb with e | hb
      · rw [e]; exact big2
      · rcases List.mem_cons.mp hb with e | hb
        · rw [e]; exact Nat.lt_trans llt big2
        · cases hb
    · intro hb
      rcases List.mem_cons.mp hb with e | hb
      · exact Nat.ne_of_lt csl e
      · cases hb
    · intro hr kr
      refine ⟨fun B Er i v t m hB hD hU hv hn hm hk => ?_, fun B Er i v t m hB hD hU hv hp hn hm hk => ?_⟩
      · simp only [List.forIn_nil]
        exact wpAny_pure ⟨rfl, GxR.keeps_refl _⟩
      · obtain ⟨y, hy, ry⟩ := hat i v hv
        refine wpAny_mono (hel _ B Er y v pins σ H1 a t m rfl J.ok.glob rfl hB hD hU J (hP y (List.mem_of_getElem? hy)) ry (fun b o nt e => ?_) hn hm) (fun u t' r => ⟨⟨y, hy, r.1⟩, r.2⟩) fun _ _ e => e
        have bP : b ≠ P := fun q => nt ps (by rw [q]; exact hT)
        have bl := Heap.lt_size e
        have bl2 : b < hh.objs.size := Nat.lt_of_lt_of_le bl (by omega)
        refine hk b (List.mem_range.mpr bl2) (fun q => ?_) o (kr b o (old b o bP e))
        rcases List.mem_cons.mp q with q | q
        · exact Nat.ne_of_lt bl q
        · cases q
    · intro g h5 tk5 gs bare gbig sz5 keep5 W hgen
      simp only [GxR.passing_true, List.length_range] at W
      have n5 : its.toArray.size = ys.length := by rw [List.size_toArray, hlen]
      rw [n5] at W hgen
      refine hQ l ys H1 g _ hR ⟨_, _, _, _, _, W.in4_1, W.in4_2, hgen, ?_, List.mem_cons_self, fun i z' st => ?_, ?_, fun z' mv => ?_⟩
      · intro b hb
        have g1 : hh.objs.size < g := gbig
        have g2 : h5.objs.size = g + 1 := sz5
        show b < h5.objs.size
        rw [g2]
        rcases List.mem_cons.mp hb with e | hb
        · rw [e]; exact Nat.lt_succ_self g
        · rcases List.mem_cons.mp hb with e | hb
          · rw [e]; exact Nat.lt_succ_of_lt g1
          · have q : b < hh.objs.size := List.mem_range.mp hb
            exact Nat.lt_succ_of_lt (Nat.lt_trans q g1)
      · obtain ⟨q, _⟩ := st
        exact q.typeIs
      · intro j u hu
        obtain ⟨i, hij, y, hy, r⟩ := hu
        obtain ⟨hj, ej⟩ := List.getElem?_eq_some_iff.mp hij
        rw [List.getElem_range] at ej
        subst ej
        exact ⟨y, hy, r⟩
      · obtain ⟨more, em⟩ := hmore
        have off : ∀ b u, a.heap.get? b = some u → b ∉ hh.objs.size :: [a.heap.objs.size] := fun b u e hb => by
          have bl := Heap.lt_size e
          rcases List.mem_cons.mp hb with q | q
          · have q2 : hh.objs.size < a.heap.objs.size := by rw [← q]; exact bl
            omega
          · rcases List.mem_cons.mp q with q | q
            · exact Nat.ne_of_lt bl q
            · cases q
        have J2 := GxR.inv_tab (more := more) (h' := z'.heap) (g' := z'.gens) (d' := z'.drawn) (t' := z'.toks) J hT (fun b u nb e => mv.heap b u (off b u e) (keep5 b u (old b u nb e)))
          (by rw [← em]; exact mv.heap P _ (off P _ tabA) (keep5 P _ tabC)) (AllBare.movedS (J.bare.push bare) mv)
        rw [GxR.sh_eta a z' mv.os] at J2
        exact ⟨upd H1 P (.tbl (ps ++ more)), ⟨⟨ps ++ more, upd_same, by rw [← em]; exact tok2⟩, fun b nb => upd_ne nb⟩, J2⟩
  refine ⟨lim, ?_⟩
  cases hf : codeAmong gp ps.toList with
  | none =>
    refine wpAny_genexprCodeX hcd (codeHd.code tabB tok) (codeHd.tab tabB) hf fun c' hh tk hx hge hlt hco' _ htab' _ => ?_
    obtain ⟨_, _, _, _, _, _, _, _, _, _, _, _, _, _, _, _, _, _, _, htr, _⟩ := hco'
    exact goOn _ hh tk _ hx (Nat.le_trans hge (Nat.le_of_lt hlt)) htab'.2 ⟨_, rfl⟩ htr
  | some cv =>
    refine wpAny_genexprCode_hit hcd (codeHd.code tabB tok) hf ?_
    exact goOn cv (a.heap.push ob) a.toks ps (Heap.ExtBut.refl _ _) (Nat.le_refl _) tabB ⟨#[], by simp⟩ tok
end
section
variable {X : Cx}
/-- all(..) of a generator expression over a tuple -/
def tAllT (K : PySem.W.Frag) (P : Addr) (Pv : Hp → V → Prop) (pb : V → Bool) (te : TE) : TE := fun σ H Q => te σ H fun v H1 => ∃ (l : Addr) (ys : List V), v = .ref l ∧ SqT K H1 l ys ∧ (∀ y ∈ ys, Pv H1 y) ∧ GxR.TabG H1 P ∧
  ∀ H2, GxR.Tabbed P H1 H2 → Q (.bl (ys.all pb)) H2
theorem pe_allT {cd P : Addr} {el it : Expr} {nm : Str} {pn p pos gp : Pos} {scp : Scope} {te : TE} {k : Nat} {Pv : Hp → V → Prop} {pb : V → Bool}
    (room : Room k X.A) (hg : Gl X "all") (hm : X.mg "all" = none) (hb : bootBuiltins "all" = some (.builtin "all")) (TB : GxR.TabB X.base X.mg cd P) (hcd : X.env.code = .ref cd) (S : GxR.GenS X.env scp nm) (hit : PE X it te)
    (hel : EltD X scp nm el Pv (fun y u => u = .bool (pb y))) (hfold : ∀ v, genFold it X.env v = pure v)
    (he : starEach [.GeneratorExp el [⟨.Name nm pn, it, [], 0⟩] scp gp] X.env = (false, eval (.GeneratorExp el [⟨.Name nm pn, it, [], 0⟩] scp gp) X.env) :: starEach [] X.env := by rfl) :
    PE X (.Call (.Name "all" p) [.GeneratorExp el [⟨.Name nm pn, it, [], 0⟩] scp gp] [] pos) (tAllT X.K P Pv pb te) := by
  refine ⟨fun pins s σ H Q I h => ?_⟩
  refine wpAny_Call_Name_kw (ld_blt I hg hm hb ?_)
  refine PyProof.Rows.callWith_builtin1 ?_ he (by rfl)
  rw [he]
  show wpAny _ _ (spliced ((false, eval (.GeneratorExp el [⟨.Name nm pn, it, [], 0⟩] scp gp) X.env) :: backTo pos (starEach [] X.env))) _ _ s
  refine Calls.spliced_cons (gen_tuple (R := fun l ys H1 => ∀ H2, GxR.Tabbed P H1 H2 → Q (.bl (ys.all pb)) H2) room TB hcd S hit hel hfold I h fun l ys H1 g z hR hG => ?_)
  obtain ⟨fp, wr, GG, F, St, W, _, st, _, _, _, hF, hI⟩ := hG
  refine Calls.spliced_nil ?_
  refine call_all_walkS (W.self 0 _ _ _ st ⟨g, fp, wr, GG, _, F, St, trD pb ys, rfl, W, st, ?_, fun z' mv => ?_⟩)
  · intro i u sj Qj Ej hu hQj
    obtain ⟨y, hy, rfl⟩ := hF i u hu
    have q : Qj (trD pb ys i) sj := hQj
    unfold trD at q
    rw [hy] at q
    exact wpAny_truthy_bool q
  · obtain ⟨H2, hT, J⟩ := hI z' mv
    refine ⟨.bl _, H2, J, rfl, ?_⟩
    rw [trD_all]
    exact hR H2 hT
end
end Sp
end

section
set_option maxHeartbeats 2000000
/-! A compare of four, and all(..) over a tuple, by data. -/
namespace Sp
open PySem PySem.Spec PyProof.Rows L2
section
variable {X : Cx} {Tb : List Addr} {a b c d e : Expr} {ta tb tc td : TE} {fa fb fc fd : VF} {pos : Pos}
/-- what a told truth leads to -/
def tIf (z : V) (H : Hp) (yes : Hp → Prop) (Q : Bool → Hp → Prop) : Prop := ∃ k : Bool, z = .bl k ∧ if k = true then yes H else Q false H
/-- a op b op c op d as a test -/
def tFour (r1 r2 r3 : R2) (ta tb tc td : TE) : TT := fun σ H Q => ta σ H fun x H1 => tb σ H1 fun y H2 => r1 x y H2 fun z H3 => tIf z H3 (fun H3 => tc σ H3 fun u H4 => r2 y u H4 fun z H5 => tIf z H5 (fun H5 => td σ H5 fun t H6 => r3 u t H6 fun z H7 => tIf z H7 (Q true) Q) Q) Q
theorem tIf.go {pins : List (Addr × Obj)} {σ : L2.St} {z : V} {dv : Value} {H : Hp} {s : Shared} {yes : Hp → Prop} {Q : Bool → Hp → Prop} {G : Bool → Shared → Prop} (I : Inv X pins σ H s) (r : RelV z dv) (h : tIf z H yes Q)
    (hy : ∀ s, Inv X pins σ H s → yes H → G true s) (hn : ∀ s, Inv X pins σ H s → Q false H → G false s) : wpAny (model X.prog X.w) X.A (truthy dv) G X.xe s := by
  obtain ⟨k, rfl, h⟩ := h
  cases r
  refine wpAny_truthy_bool ?_
  cases k with
  | true => exact hy s I h
  | false => exact hn s I h
theorem pt_four {o1 o2 o3 : CmpOp} {r1 r2 r3 : R2} (h1 : OpR X (compareOp o1) r1) (h2 : OpR X (compareOp o2) r2) (h3 : OpR X (compareOp o3) r3) (ha : PE X a ta) (hb : PE X b tb) (hc : PE X c tc) (hd : PE X d td)
    (hm : lastMarks [o1, o2, o3] [b, c, d] = false := by with_unfolding_all rfl) : PT X (.Compare a [o1, o2, o3] [b, c, d] pos) (tFour r1 r2 r3 ta tb tc td) := by
  refine ⟨fun pins s σ H Q I h => isTrue_chain (thn (ha.run pins s σ H _ I h) fun v1 s1 ⟨x, H1, I1, x1, q1⟩ => ?_) hm⟩
  refine test_link (thn (hb.run pins s1 σ H1 _ I1 q1) fun v2 s2 ⟨y, H2, I2, x2, q2⟩ => thn (h1 pins s2 σ H2 x y v1 v2 _ I2 x1 x2 q2) fun w3 s3 ⟨z3, H3, I3, x3, q3⟩ => ?_)
  refine q3.go I3 x3 (fun s3 I3 q3 => ?_) fun s3 I3 q3 => ⟨H3, I3, q3⟩
  refine ite_tt (test_link (thn (hc.run pins s3 σ H3 _ I3 q3) fun v4 s4 ⟨u, H4, I4, x4, q4⟩ => thn (h2 pins s4 σ H4 y u v2 v4 _ I4 x2 x4 q4) fun w5 s5 ⟨z5, H5, I5, x5, q5⟩ => ?_))
  refine q5.go I5 x5 (fun s5 I5 q5 => ?_) fun s5 I5 q5 => ⟨H5, I5, q5⟩
  refine ite_tt (test_last (thn (hd.run pins s5 σ H5 _ I5 q5) fun v6 s6 ⟨t, H6, I6, x6, q6⟩ => thn (h3 pins s6 σ H6 u t v4 v6 _ I6 x4 x6 q6) fun w7 s7 ⟨z7, H7, I7, x7, q7⟩ => ?_))
  exact q7.go I7 x7 (fun s I q => ⟨H7, I, q⟩) fun s I q => ⟨H7, I, q⟩
/-- by data -/
def vIff (z : PyData) (yes no : Prop) : Prop := match z with
  | .bool b => if b = true then yes else no
  | _ => False
def vTFour (o1 o2 o3 : DOp) (fa fb fc fd : VF) : VT := fun env k => fa env fun w1 e1 => fb e1 fun w2 e2 => vTwo o1 (lk e2 w1) (lk e2 w2) fun z => vIff z (fc e2 fun w3 e3 => vTwo o2 (lk e3 w2) (lk e3 w3) fun z => vIff z (fd e3 fun w4 e4 => vTwo o3 (lk e4 w3) (lk e4 w4) fun z => vIff z (k true e4) (k false e4)) (k false e3)) (k false e2)
theorem vIff.tell {z : PyData} {v : V} {G : Hp} {H : Hp} {yes no : Prop} {Y : Hp → Prop} {Q : Bool → Hp → Prop} (h : vIff z yes no) (r : Dv G v z) (hy : yes → Y H) (hn : no → Q false H) : tIf v H Y Q := by
  cases z with
  | bool b =>
    cases r
    refine ⟨b, rfl, ?_⟩
    cases b with
    | true => exact hy h
    | false => exact hn h
  | _ => exact h.elim
theorem vt_four {o1 o2 o3 : CmpOp} {d1 d2 d3 : DOp} (h1 : OpV X (compareOp o1) d1) (h2 : OpV X (compareOp o2) d2) (h3 : OpV X (compareOp o3) d3) (ha : VE X Tb a fa) (hb : VE X Tb b fb) (hc : VE X Tb c fc) (hd : VE X Tb d fd)
    (hm : lastMarks [o1, o2, o3] [b, c, d] = false := by with_unfolding_all rfl) : VTt X Tb (.Compare a [o1, o2, o3] [b, c, d] pos) (vTFour d1 d2 d3 fa fb fc fd) := by
  obtain ⟨r1, hr1, hv1⟩ := h1
  obtain ⟨r2, hr2, hv2⟩ := h2
  obtain ⟨r3, hr3, hv3⟩ := h3
  refine PT.imp (pt_four hr1 hr2 hr3 ha hb hc hd hm) fun σ H Q ⟨F, O, env, k, R, h, q⟩ => ?_
  refine ⟨F, O, env, _, R, h, fun w1 e1 v1 H1 R1 x1 g1 h1 => ⟨F, O, e1, _, R1, h1, fun w2 e2 v2 H2 R2 x2 g2 h2 => ?_⟩⟩
  obtain ⟨x, y, ex, ey, h2⟩ := two_of h2
  refine hv1 (vw F O H2) H2 v1 v2 x y _ _ view_vw (R2.dl (x1.gr g2) ex) (R2.dl x2 ey) h2 fun z v H3 kz res => ?_
  obtain ⟨R3, x3, g3⟩ := R2.res res
  refine kz.tell x3 (fun h3 => ?_) fun h3 => q false e2 H3 R3 (g1.trans (g2.trans g3)) h3
  refine ⟨F, O, e2, _, R3, h3, fun w4 e4 v4 H4 R4 x4 g4 h4 => ?_⟩
  obtain ⟨x, y, ex, ey, h4⟩ := two_of h4
  refine hv2 (vw F O H4) H4 v2 v4 x y _ _ view_vw (R4.dl (x2.gr (g3.trans g4)) ex) (R4.dl x4 ey) h4 fun z v H5 kz res => ?_
  obtain ⟨R5, x5, g5⟩ := R4.res res
  refine kz.tell x5 (fun h5 => ?_) fun h5 => q false e4 H5 R5 (g1.trans (g2.trans (g3.trans (g4.trans g5)))) h5
  refine ⟨F, O, e4, _, R5, h5, fun w6 e6 v6 H6 R6 x6 g6 h6 => ?_⟩
  obtain ⟨x, y, ex, ey, h6⟩ := two_of h6
  refine hv3 (vw F O H6) H6 v4 v6 x y _ _ view_vw (R6.dl (x4.gr (g5.trans g6)) ex) (R6.dl x6 ey) h6 fun z v H7 kz res => ?_
  obtain ⟨R7, x7, g7⟩ := R6.res res
  exact kz.tell x7 (fun h7 => q true e6 H7 R7 (g1.trans (g2.trans (g3.trans (g4.trans (g5.trans (g6.trans g7)))))) h7) fun h7 => q false e6 H7 R7 (g1.trans (g2.trans (g3.trans (g4.trans (g5.trans (g6.trans g7)))))) h7
/-- all(f(x) for x in xs), xs a tuple -/
def vAllT (p : PyData → Bool) (fa : VF) : VF := fun env k => fa env fun w e => match lk e w with
  | some (.tuple xs) => k (.d (.bool (xs.all p))) e
  | _ => False
theorem ve_allT {x : Expr} {P : Addr} {pb : V → Bool} {p : PyData → Bool} (hP : P ∈ Tb) (hp : ∀ H v d, Dv H v d → pb v = p d) (h : PE X x (tAllT X.K P Plain pb (cE Tb fa))) : VE X Tb x (vAllT p fa) :=
  PE.imp h fun σ H Q ⟨F, O, env, k, R, h, q⟩ => ⟨F, O, env, _, R, h, fun w e1 v H1 R1 r1 g1 h1 => by
    split at h1
    · rename_i xs ed
      obtain ⟨a, vs, rfl, ha, dv⟩ := (R1.dl r1 ed).tuple view_vw
      have dH := DvA.le view_vw.toLe _ _ dv
      refine ⟨a, vs, rfl, sqt ha, plain_all dH, R1.tb P hP, fun H2 tb => ?_⟩
      rw [all_dv (hp H1) dH]
      obtain ⟨R2, g2⟩ := R1.grow (Ex.tabbed (R1.tb P hP) tb)
      exact q (.d (.bool (xs.all p))) e1 _ H2 R2 (Dv.bl _) (g1.trans g2) h1
    · exact h1.elim⟩
end
end Sp
end

section
set_option maxHeartbeats 2000000
/-! What a law finds at its entry: an abstract heap of the script and the tables, and how its end is read. -/
namespace Sp
open PySem PySem.Spec PyProof.Rows L2
/-- the tables, and the script unless the text itself holds it -/
def entry (K : PySem.W.Frag) (T : List Addr) (a : Addr) (ho : HO) : Hp := fun b => if b ∈ T then some (.tbl #[]) else if b = a ∧ K.lookup a = none then some ho else none
section
variable {K : PySem.W.Frag} {T : List Addr} {a b : Addr} {ho u : HO}
theorem entry_tab (h : b ∈ T) : entry K T a ho b = some (.tbl #[]) := if_pos h
theorem entry_cases (h : entry K T a ho b = some u) : (b ∈ T ∧ u = .tbl #[]) ∨ (b = a ∧ b ∉ T ∧ K.lookup a = none ∧ u = ho) := by
  unfold entry at h
  split at h
  · next m => exact .inl ⟨m, (Option.some.inj h).symm⟩
  · next m =>
    split at h
    · next q => exact .inr ⟨q.1, m, q.2, (Option.some.inj h).symm⟩
    · cases h
theorem entry_none (h : ∀ u, entry K T a ho b = some u → False) : entry K T a ho b = none := by
  cases q : entry K T a ho b with
  | none => rfl
  | some u => exact (h u q).elim
end
theorem ground {P : Program} {w : World} {K : PySem.W.Frag} {mg mb : Str → Option Value} {a : Addr} {cs : List (Addr × Addr)} {s : Shared} {vs : List Value} {ns : List Int}
    (KX : K.In s.heap) (hns : s.heap.Ns mainGlobals mg) (hb : s.heap.Ns builtinsNs mb) (hbb : ∀ x : Str, x ≠ "__name__" → mb x = bootBuiltins x) (hlim : s.heap.NoLimit) (hg : s.gens = #[])
    (hT : ∀ p ∈ cs, s.heap.get? p.2 = some { cls := .none, data := .fields #[] }) (nT : ∀ p ∈ cs, K.lookup p.2 = none) (C : ∀ p ∈ cs, PySem.W.CodeHd s.heap p.1 p.2)
    (hbm : ∃ (bm : Addr) (ob : Obj), mg "__builtins__" = some (.ref bm) ∧ bm ≠ builtinsNs ∧ s.heap.get? bm = some ob ∧ ob.cls = .type "module" ∧ ob.dict = some builtinsNs ∧ ob.data = .plain)
    (ha : s.heap.get? a = some { cls := .type "list", data := .seq vs.toArray }) (hi : IntsAre vs ns) (hl : ns.length ≤ sizeLine) :
    ∃ (H : Hp) (base : Heap), K.In base ∧ base.Ns mainGlobals mg ∧ (∀ p ∈ cs, LamX.TabB base mg p.1 p.2) ∧ (∀ p ∈ cs, H p.2 = some (.tbl #[])) ∧ SqL K H a (ns.map V.int) ∧ Env0 P w K mg base callerA [] s H ∧ (∀ b o, s.heap.get? b = some o → (∀ xs n, o.data ≠ .seq xs n) → o.data ≠ .fields #[] → base.get? b = some o) ∧
      ∀ u s', CE [] P w H s (fun v _ => v = .bl true) u s' → u = .bool true ∧ OldK s.heap s'.heap ∧ s'.os = s.os ∧ AllBare s'.gens := by
  have rv := vals_ints hi
  have tb : ∀ b, b ∈ cs.map (·.2) → s.heap.get? b = some { cls := .none, data := .fields #[] } := fun b m => by
    obtain ⟨p, hp, rfl⟩ := List.mem_map.mp m
    exact hT p hp
  have aT : a ∉ cs.map (·.2) := fun m => by
    have q := congrArg Obj.data (Option.some.inj (ha.symm.trans (tb a m)))
    cases q
  obtain ⟨H, eH⟩ : ∃ H : Hp, H = entry K (cs.map (·.2)) a (.frz { cls := .type "list", data := .seq vs.toArray } (.lst (ns.map V.int))) := ⟨_, rfl⟩
  have hH : ∀ p ∈ cs, H p.2 = some (.tbl #[]) := fun p hp => by
    rw [eH]
    exact entry_tab (List.mem_map.mpr ⟨p, hp, rfl⟩)
  have is : ∀ b u, H b = some u → (b ∈ cs.map (·.2) ∧ u = .tbl #[]) ∨ (b = a ∧ K.lookup a = none ∧ u = .frz { cls := .type "list", data := .seq vs.toArray } (.lst (ns.map V.int))) := fun b u h => by
    rw [eH] at h
    rcases entry_cases h with h | ⟨h1, _, h2, h3⟩
    · exact .inl h
    · exact .inr ⟨h1, h2, h3⟩
  -- what is neither a table nor a list is not tracked
  have un : ∀ {b : Addr} {o : Obj}, s.heap.get? b = some o → (∀ xs n, o.data ≠ .seq xs n) → o.data ≠ .fields #[] → H b = none := fun {b o} e h1 h2 => by
    cases q : H b with
    | none => rfl
    | some u =>
      rcases is b u q with ⟨m, _⟩ | ⟨rfl, _⟩
      · rw [tb b m] at e
        cases e
        exact (h2 rfl).elim
      · rw [ha] at e
        cases e
        exact (h1 _ _ rfl).elim
  have ns' : ∀ {b : Addr} {m : Str → Option Value}, s.heap.Ns b m → (hidT s.heap H).Ns b m := fun {b m} h => by
    obtain ⟨o, es, ep, e, d, r⟩ := h
    refine ⟨o, es, ep, hidT_get e (un e (fun _ _ z => ?_) fun z => ?_), d, r⟩ <;> (rw [d] at z; cases z)
  have kin : K.In (hidT s.heap H) := fun b o e => hidT_get (KX b o e) (by
    cases q : H b with
    | none => rfl
    | some u =>
      rcases is b u q with ⟨m, _⟩ | ⟨rfl, k, _⟩
      · obtain ⟨p, hp, rfl⟩ := List.mem_map.mp m
        rw [nT p hp] at e
        cases e
      · rw [k] at e
        cases e)
  have hok : HOk P w H s.heap := fun b u h => by
    rcases is b u h with ⟨m, rfl⟩ | ⟨rfl, _, rfl⟩
    · exact tb b m
    · exact ⟨ha, by rw [List.length_map]; exact hl, vs, _, rv, ha⟩
  refine ⟨H, hidT s.heap H, kin, ns' hns, fun p hp => ?_, hH, ?_, ?_, fun b o e h1 h2 => hidT_get e (un e h1 h2), fun u s' h => ?_⟩
  · refine ⟨?_, ?_, fun z => ?_⟩
    · obtain ⟨o, us, f1, f2, f3, f4, f5, f6, f7, e1, r1, r2, r3, r⟩ := C p hp
      refine ⟨o, us, f1, f2, f3, f4, f5, f6, f7, hidT_get e1 (un e1 (fun _ _ z => ?_) fun z => ?_), r1, r2, r3, r⟩
      · rw [r2] at z
        cases z
      · rw [r2] at z
        cases z
        simp at r3
    · obtain ⟨bm, ob, b1, b2, b3, b4, b5, b6⟩ := hbm
      refine ⟨bm, ob, b1, b2, fun z => ?_, fun z => ?_, hidT_get b3 (un b3 (fun _ _ z => ?_) fun z => ?_), b4, b5, b6⟩
      · obtain ⟨o, es, ep, e, d, _⟩ := hns
        rw [← z, b3] at e
        cases e
        rw [b6] at d
        cases d
      · rw [z, hT p hp] at b3
        cases b3
        cases b6
      · rw [b6] at z
        cases z
      · rw [b6] at z
        cases z
    · obtain ⟨o, es, ep, e, d, _⟩ := hns
      rw [z, hT p hp] at e
      cases e
      cases d
  · cases k : K.lookup a with
    | some o =>
      have e := KX a o k
      rw [ha] at e
      cases e
      refine .inr ⟨_, vs.toArray, _, k, rfl, rfl, rfl, by rw [List.size_toArray, hi.length]; exact hl, by simpa using rv⟩
    | none =>
      refine .inl (.inr ⟨{ cls := .type "list", data := .seq vs.toArray }, ?_⟩)
      rw [eH]
      unfold entry
      rw [if_neg aT, if_pos ⟨rfl, k⟩]
  · exact ⟨rfl, ⟨kin, ns' hns, ⟨mb, ns' hb, hbb⟩, let ⟨mc, q1, q2⟩ := hlim; ⟨mc, ns' q1, q2⟩⟩, fun b o e => of_hidT e, Nat.le_of_eq (hidT_size _ _), trivial, fun b z => (List.not_mem_nil z).elim, hok, .of_eq hg⟩
  · obtain ⟨v, H', os, bare, U, hok', r, rfl⟩ := h
    have kept : ∀ b o, b ∉ cs.map (·.2) → s.heap.get? b = some o → s'.heap.get? b = some o := fun b o nb e => by
      cases q : H b with
      | none => exact U.keep b o e q (fun z => (List.not_mem_nil z).elim) (fun z => List.not_mem_nil z)
      | some t =>
        rcases is b t q with ⟨m, _⟩ | ⟨rfl, _, rfl⟩
        · exact absurd m nb
        · have q2 := (hok' b _ (U.frzs b _ _ q)).1
          rw [ha] at e
          cases e
          exact q2
    have grown : ∀ p ∈ cs, ∃ more : Array Value, s'.heap.get? p.2 = some { cls := .none, data := .fields more } := fun p hp => by
      obtain ⟨more, z⟩ := U.tbls p.2 #[] (hH p hp)
      exact ⟨_, hok' p.2 _ z⟩
    refine ⟨r, ⟨fun b o e => ?_, fun b o e => ?_⟩, os, bare⟩
    · by_cases m : b ∈ cs.map (·.2)
      · obtain ⟨p, hp, rfl⟩ := List.mem_map.mp m
        obtain ⟨more, g⟩ := grown p hp
        rw [hT p hp] at e
        cases e
        exact .inr (.inl ⟨((C p hp).tab (hT p hp)).isCodeTable, rfl, #[], more, rfl, by rw [Array.empty_append]; exact g⟩)
      · exact .inl (kept b o m e)
    · by_cases m : b ∈ cs.map (·.2)
      · obtain ⟨p, hp, rfl⟩ := List.mem_map.mp m
        obtain ⟨more, g⟩ := grown p hp
        exact ⟨_, g⟩
      · exact ⟨o, kept b o m e⟩
end Sp
end

section
set_option maxHeartbeats 2000000
/-! Own functions that are asked where no repr goes on (guards are known to be none): then repr of lists and tuples can be told. -/
namespace Sp
open PySem PySem.Spec PyProof.Rows L2
/-- what a function keeps where no repr goes on -/
structure FnG (P : Program) (w : World) (K : PySem.W.Frag) (mg : Str → Option Value) (base : Heap) (k : Nat) (f : Addr) (fd : FuncData) (ps : List Str) (sp : Sp) : Prop where
  len : ∀ vs H Q E, sp vs H Q E → vs.length = ps.length
  run : ∀ (A : Around) (outer : List Env) (s : Shared) (H : Hp) (args : Args) (us : List Value) (vs : List V) (Q : VK) (E : XK), A.guards = some [] → Room k A → Env0 P w K mg base A outer s H → BindsTo s fd args (ps.zip us) → Vals vs us → sp vs H Q E →
    codeAny (model P w) A (.call (.ref f) args) (CR CX0 outer P w H s Q E) s
section
variable {P : Program} {w : World} {K : PySem.W.Frag} {mg : Str → Option Value} {base : Heap} {k : Nat} {f : Addr} {fd : FuncData} {ps : List Str} {sp : Sp}
theorem FnG.mono {j : Nat} (F : FnG P w K mg base j f fd ps sp) (h : j ≤ k) : FnG P w K mg base k f fd ps sp :=
  ⟨F.len, fun A o s H args us vs Q E hg hr => F.run A o s H args us vs Q E hg (hr.mono h)⟩
/-- a def by its body -/
theorem okG {x qual : Str} {st : Stmt} {N : List Str} (F : Fun K x qual st f fd) (S : FnScope N ps (defScope st)) (len : ∀ vs H Q E, sp vs H Q E → vs.length = ps.length)
    (hbody : ∀ (cdv : Value) (A : Around) (outer : List Env) (s : Shared) (H : Hp) (vs : List V) (Q : VK) (E : XK), A.guards = some [] → Room k (A.deeper (envOfC qual (defScope st) s.heap.objs.size f cdv)) → sp vs H Q E →
      ∃ t, PSs (cxOf CX0 P w K mg base N qual (defScope st) f cdv A outer s H E).nox (defBody st) t ∧ t { nx := fun _ H' => Q .non H', rt := Q } (start N vs) H) : FnG P w K mg base (k + 1) f fd ps sp := by
  obtain ⟨oc, od, kV, doc, pm, an, cdv, ct, osl, rfl, lk, hcd⟩ := F.ex
  refine ⟨len, fun A outer s H args us vs Q E hg hr e0 hb r hsp => ?_⟩
  have old : ∀ b o, base.get? b = some o → s.heap.get? b = some o := fun b o e => (e0.bs b o e).1
  have KX := e0.mod.kin.keeps old
  refine codeAny_call_function hr.depth (KX _ _ lk) rfl S.co S.gen rfl (PySem.W.codeRec_of KX hcd) (hb _ _ _ _ ?_)
  refine wpAny_newFunctionEnv_cells S.kind (fun y hy => ?_) fun env he s1 x => ?_
  · rcases S.par y.1 (List.of_mem_zip hy).1 with q | q
    · exact .inl q
    · exact .inr ⟨q, PySem.W.cellsFrom_some _ _ _ (.inl q)⟩
  · subst he
    refine ⟨(e0.mod.nolimit.keeps old).keeps x.toInCall.keep, codeAny_func ?_⟩
    obtain ⟨t, ht, q⟩ := hbody cdv A outer s H vs Q E hg (hr.deeper _) hsp
    have I : Inv (cxOf CX0 P w K mg base N qual (defScope st) f cdv A outer s H E) [] (start N vs) H s1 := inv_start S hr.hd e0 (len _ _ _ _ hsp) r x
    refine wpAny_mono (ht.nox.run [] s1 (start N vs) H _ I q) (fun fl s' hs => ?_) fun e s' hs => hs
    cases fl with
    | ret u =>
      obtain ⟨v, σ', H', J, rv, q⟩ := hs
      exact ⟨v, H', J.os, J.bare, J.base, J.hok, rv, q⟩
    | next =>
      obtain ⟨σ', H', J, q⟩ := hs
      exact ⟨V.non, H', J.os, J.bare, J.base, J.hok, rfl, q⟩
    | brk => exact hs.elim fun _ h => h.elim fun _ h => h.2.elim
    | cont => exact hs.elim fun _ h => h.elim fun _ h => h.2.elim
end
section
variable {X : Cx} {e : Expr} {es : List Expr} {t tk : TA} {p pos : Pos} {x : Str} {st : Stmt} {ps ks : List Str} {k : Nat} {sp : Sp}
theorem run_any {pins : List (Addr × Obj)} {σ : L2.St} {H : Hp} {s : Shared} {Q : VK} {E : XK} {f : Addr} {us : List Value} {kw : List (Str × Value)} (I : Inv X pins σ H s)
    (h : codeAny (model X.prog X.w) X.A (.call (.ref f) ⟨us, kw⟩) (CR CX0 X.stack X.prog X.w H s Q E) s) : wpAny (model X.prog X.w) X.A (call (.ref f) us kw) (EP X pins σ Q) X.xe s := by
  refine wpAny_call (codeAny_mono h fun r s' hq => ?_)
  cases r with
  | error e => exact hq.elim
  | ok fl =>
    cases fl with
    | ret u => exact I.after hq
    | next => exact hq.elim
    | brk => exact hq.elim
    | cont => exact hq.elim
/-- f(..) of an own function -/
theorem pe_g (d : Df X.K X.mg x st ps) (G : FnG X.prog X.w X.K X.mg X.base k d.f d.fd ps sp) (hgd : X.A.guards = some []) (hr : Room k X.A) (ha : PA X (e :: es) t) (hg : Gl X x := by rfl)
    (hdb : (x == ("__debug__" : Str)) = false := by decide) (he : starEach (e :: es) X.env = (false, eval e X.env) :: starEach es X.env := by rfl) (hpl : (backTo pos (starEach es X.env)).any (·.1) = false := by rfl) :
    PE X (.Call (.Name x p) (e :: es) [] pos) (tCall sp [] E0 t) := by
  refine ⟨fun pins s σ H Q I h => ?_⟩
  refine wpAny_Call_Name_kw (ld_glob I hg d.m ?_ hdb)
  refine PySem.W.callWith_K (h₀ := X.base) I.ok.mod.kin d.F.kp (thn (ha.run pos pins s σ H _ I h) fun us s1 ⟨vs, H1, I1, r, q⟩ => ⟨I1.kIn, ?_⟩) he hpl
  have q2 : sp (vs ++ []) H1 Q E0 := q
  rw [List.append_nil] at q2
  replace q := q2
  have b := d.b s1 us I1.kIn (by rw [List.append_nil, ← r.length]; exact G.len _ _ _ _ q)
  rw [List.append_nil] at b
  exact run_any I1 (G.run X.A X.stack s1 H1 ⟨us, []⟩ us vs Q E0 hgd hr I1.env0 b r q)
/-- how a call by names alone is bound -/
structure Names (fd : FuncData) (ps ks : List Str) (g : {α : Type} → List α → List α) : Prop where
  to : ∀ (s : Shared) (ws : List Value), ws.length = ks.length → BindsTo s fd ⟨[], ks.zip ws⟩ (ps.zip (g ws))
  rel : ∀ {vs : List V} {us : List Value}, Vals vs us → Vals (g vs) (g us)
def tNames (n : Nat) (sp : Sp) (g : {α : Type} → List α → List α) (tk : TA) : TE := fun σ H Q => tk σ H fun zs H1 => zs.length = n ∧ sp (g zs) H1 Q E0
/-- f(k = v, ..) of an own function -/
theorem pe_names {kws : List Keyword} {g : {α : Type} → List α → List α} (d : Df X.K X.mg x st ps) (G : FnOk X.prog X.w X.K X.mg X.base CX0 k d.f d.fd ps sp) (hr : Room k X.A) (hb : Names d.fd ps ks g) (hkw : PK X kws tk) (hg : Gl X x := by rfl)
    (hall : (backToKw pos (keywordEach kws X.env)).all (·.1.isSome) = true := by rfl) (hks : (backToKw pos (keywordEach kws X.env)).filterMap (·.1) = ks := by rfl)
    (hdb : (x == ("__debug__" : Str)) = false := by decide) (hpl : ((backTo pos (starEach [] X.env)).any (·.1) || (backToKw pos (keywordEach kws X.env)).any (·.1.isNone)) = false := by rfl) :
    PE X (.Call (.Name x p) [] kws pos) (tNames ks.length sp g tk) := by
  refine ⟨fun pins s σ H Q I h => ?_⟩
  refine wpAny_Call_Name_kw (ld_glob I hg d.m ?_ hdb)
  refine PySem.W.callWith_KW0 (h₀ := X.base) I.ok.mod.kin d.F.kp hall (thn (hkw.run pos pins s σ H _ I h) fun ws s1 ⟨zs, H1, I1, r, hl, q⟩ => ⟨I1.kIn, ?_⟩) hpl
  rw [hks]
  exact run_any I1 (G.run X.A X.stack s1 H1 ⟨[], ks.zip ws⟩ (g ws) (g zs) Q E0 hr I1.env0 (hb.to s1 ws (r.length.symm.trans hl)) (hb.rel r) q)
/-- repr(x) of what is data -/
theorem call_reprD (hgd : X.A.guards = some []) (hu : X.A.units + 66 < cLine) : CallR X (.builtin "repr") (fun xs H Q => ∃ a d, xs = [.ref a] ∧ Dp X.K H (.ref a) d ∧ d.showable = true ∧ d.hasDict = false ∧ d.depth ≤ 64 ∧ d.shown.length ≤ sizeLine ∧ Q (.str d.shown) H) := by
  intro pins s σ H xs us Q I r h
  obtain ⟨a, d, rfl, hd, h1, h2, h3, h4, q⟩ := h
  rw [Vals.ref1 r]
  obtain ⟨as, rd⟩ := Dp.reads I d (.ref a) (.ref a) hd rfl
  exact repr_of_reads' rd h1 (PyData.noDict_hsm h2) hgd (by omega) (fun _ _ e => e) (fun h' u tk hk => ⟨.str _, H, I.kept hk, ⟨_, rfl⟩, q⟩) h4
end
/-! ### data that repr can write -/
structure Sw (n b : Nat) (d : PyData) : Prop where
  sh : d.showable = true
  lf : d.leavesShort 600 = true
  nd : d.hasDict = false
  dp : d.depth ≤ n
  bk : d.bulk ≤ b
theorem Sw.len {n b : Nat} {d : PyData} (h : Sw n b d) (hb : b ≤ 20000) : d.shown.length ≤ sizeLine := by
  have q := PyData.shown_le_bulk 600 (by decide) d h.lf
  have e : sizeLine = 16777216 := by decide
  have := h.bk
  have m : (600 + 2) * d.bulk ≤ 602 * 20000 := Nat.mul_le_mul (Nat.le_refl _) (by omega)
  omega
theorem sw_int {n : Nat} {i : Int} (h : -1000000000000000000000000000000 < i ∧ i < 1000000000000000000000000000000) : Sw n 0 (.int i) := by
  have hk : i.natAbs < 2 ^ 200 := Nat.lt_of_lt_of_le (by omega : i.natAbs < 1000000000000000000000000000000) (by decide)
  have hlog : i.natAbs.log2 < 200 := by
    by_cases z : i.natAbs = 0
    · rw [z]
      decide
    · exact (Nat.log2_lt z).mpr hk
  refine ⟨?_, ?_, rfl, by simp [PyData.depth], by simp [PyData.bulk]⟩
  · simp only [PyData.showable, decide_eq_true_eq]
    omega
  · simp only [PyData.leavesShort, decide_eq_true_eq]
    have q := int_text_length_le (a := i) (k := 200) (by decide) hlog
    have e : (PyData.shown (.int i)).length = (toString i).length := by
      show (Str.ofString (toString i)).length = _
      exact PySem.ofString_length _
    omega
theorem sw_all {n b : Nat} : ∀ ds : List PyData, (∀ d ∈ ds, Sw n b d) → PyData.showableAll ds = true ∧ PyData.leavesShortAll 600 ds = true ∧ PyData.hasDictAll ds = false ∧ PyData.depthAll ds ≤ n ∧ PyData.bulkAll ds ≤ ds.length * (b + 1)
  | [], _ => ⟨rfl, rfl, rfl, Nat.zero_le _, Nat.zero_le _⟩
  | d :: ds, h => by
    have h1 := h d List.mem_cons_self
    obtain ⟨a1, a2, a3, a4, a5⟩ := sw_all ds fun x hx => h x (List.mem_cons_of_mem _ hx)
    refine ⟨by simp [PyData.showableAll, h1.sh, a1], by simp [PyData.leavesShortAll, h1.lf, a2], by simp [PyData.hasDictAll, h1.nd, a3], ?_, ?_⟩
    · simp only [PyData.depthAll]
      exact Nat.max_le.mpr ⟨h1.dp, a4⟩
    · simp only [PyData.bulkAll, List.length_cons]
      have := h1.bk
      have e : (ds.length + 1) * (b + 1) = ds.length * (b + 1) + (b + 1) := Nat.succ_mul _ _
      omega
theorem sw_list {n b : Nat} {ds : List PyData} (h : ∀ d ∈ ds, Sw n b d) : Sw (n + 1) (ds.length * (b + 1)) (.list ds) := by
  obtain ⟨a1, a2, a3, a4, a5⟩ := sw_all ds h
  refine ⟨by simpa only [PyData.showable] using a1, by simpa only [PyData.leavesShort] using a2, by simpa only [PyData.hasDict] using a3, ?_, by simpa only [PyData.bulk] using a5⟩
  simp only [PyData.depth]
  omega
theorem sw_tup {n b : Nat} {ds : List PyData} (h : ∀ d ∈ ds, Sw n b d) : Sw (n + 1) (ds.length * (b + 1)) (.tuple ds) := by
  obtain ⟨a1, a2, a3, a4, a5⟩ := sw_all ds h
  refine ⟨by simpa only [PyData.showable] using a1, by simpa only [PyData.leavesShort] using a2, by simpa only [PyData.hasDict] using a3, ?_, by simpa only [PyData.bulk] using a5⟩
  simp only [PyData.depth]
  omega
theorem Sw.mono {n b m c : Nat} {d : PyData} (h : Sw n b d) (h1 : n ≤ m) (h2 : b ≤ c) : Sw m c d := ⟨h.sh, h.lf, h.nd, Nat.le_trans h.dp h1, Nat.le_trans h.bk h2⟩
theorem sw_pdI {ns : List Int} (h : ∀ z ∈ ns, -1000000000000000000000000000000 < z ∧ z < 1000000000000000000000000000000) : Sw 1 ns.length (pdI ns) := by
  have q := sw_list (n := 0) (b := 0) (ds := ns.map PyData.int) fun d hd => by
    obtain ⟨z, hz, rfl⟩ := List.mem_map.mp hd
    exact sw_int (h z hz)
  rw [List.length_map] at q
  exact q.mono (Nat.le_refl _) (by omega)
open PySem.W PySem.Calls
/-! ### the end of a law whose promise is kept where no repr goes on -/
def LawAtG (l : PySem.W.OpenLaw) (w : World) (K : PySem.W.Frag) (k n : Nat) (x : Str) (mg : Str → Option Value) (fa : Addr) (h : Heap) : Prop :=
  ∃ (fd : FuncData) (cs : List (Addr × Addr)) (sp : Sp), (∀ p ∈ cs, h.get? p.2 = some { cls := .none, data := .fields #[] }) ∧ (∀ p ∈ cs, K.lookup p.2 = none) ∧ (∀ p ∈ cs, PySem.W.CodeHd h p.1 p.2) ∧ (∀ (s : Shared) (u : Value), BindsTo s fd ⟨[u], []⟩ [(x, u)]) ∧
    (∀ (H : Hp) (a : Addr) (ns : List Int), ns.length ≤ n → (∀ z ∈ ns, Builtin.Int.intBits z ≤ 1048576) → (∀ p ∈ cs, H p.2 = some (.tbl #[])) → SqL K H a (ns.map V.int) → sp [.ref a] H (fun v _ => v = .bl true) E0) ∧
    ∀ base : Heap, K.In base → base.Ns mainGlobals mg → (∀ p ∈ cs, LamX.TabB base mg p.1 p.2) → FnG l.prog w K mg base k fa fd [x] sp
theorem walk_tabsG {l : PySem.W.OpenLaw} {n k : Nat} {q : Program} {loose : List Str} {XP : (Str → Option Value) → Heap → Prop} {YP : World → Heap → Prop} {d : DefRec} {K : Params → PySem.W.Frag} {x : Str}
    (hn : l.most = some n) (hn2 : n ≤ sizeLine) (hdf : d.params.defaults = []) (room : L2.Room k callerA) (hY : ∀ (w : World) (h : Heap), YP w h → (K w.params).In h)
    (F : ∀ (w : World) (mg : Str → Option Value) (fa : Addr) (h : Heap), (K w.params).In h → h.Ns mainGlobals mg → mg d.name = some (.ref fa) → TabsOf q mg h → LawAtG l w (K w.params) k n x mg fa h) :
    PySem.W.WalkO q loose XP YP l.row.toRowW d [] (fun f vs => PySem.call f vs) := by
  refine Att.attach_callB hn hdf fun w _ s mg mb fa _ _ _ _ a vs ns Gd Yh _ _ _ hmg hobj hints hlen hbits hg => ?_
  have KX := hY w _ Yh
  have T : TabsOf q mg s.heap := fun nm f hr hm => by
    obtain ⟨r, rm, rn⟩ := List.any_eq_true.mp hr
    obtain ⟨a, o, fd, c, P, t1, t2, t3, t4, t5, t6⟩ := Gd.T.tab r rm
    rw [beq_iff_eq.mp rn, hm] at t1
    cases t1
    exact ⟨o, fd, c, P, t2, t3, t4, PySem.W.CodeHd.of t5 t6, t6⟩
  obtain ⟨fd, cs, sp, c1, c2, c3, c4, c5, c6⟩ := F w mg fa _ KX Gd.T.g hmg T
  obtain ⟨H, base, g1, g2, g3, g4, g5, g6, _, g7⟩ := ground (P := l.prog) (w := w) KX Gd.T.g Gd.T.b Gd.T.builtins Gd.T.nolimit hg c1 c2 c3 Gd.T.bmain hobj hints (Nat.le_trans hlen hn2)
  refine codeAny_mono ((c6 base g1 g2 g3).run callerA [] s H ⟨[.ref a], []⟩ [.ref a] [.ref a] _ _ rfl room g6 (c4 s (.ref a)) (.cons rfl .nil) (c5 H a ns hlen hbits g4 g5)) fun r s' h => ?_
  cases r with
  | error e => exact h.elim
  | ok fl =>
    cases fl with
    | next => exact h.elim
    | brk => exact h.elim
    | cont => exact h.elim
    | ret u =>
      obtain ⟨rfl, h2⟩ := g7 u s' h
      exact ⟨rfl, h2⟩
end Sp
end

section
set_option maxHeartbeats 2000000
/-! x in (..), is True, calls by names, list.count. -/
namespace Sp
open PySem PySem.Spec PyProof.Rows L2
section
variable {X : Cx} {Tb : List Addr} {a b c d e : Expr} {fa fb fc fd : VF} {pos p : Pos} {es : List Expr} {fs : VA}
theorem inV_ints (i : Int) (ns : List Int) : inV (.int i) (ns.map V.int) = decide (i ∈ ns) := by
  unfold inV
  induction ns with
  | nil => rfl
  | cons n ns ih =>
    rw [List.map_cons, List.any_cons, ih]
    show ((n == i) || _) = _
    by_cases h : n = i
    · subst h
      simp
    · have h2 : ¬ i = n := fun z => h z.symm
      simp [h, h2]
theorem flat_ints (ns : List Int) : (ns.map V.int).all flatV = true := List.all_eq_true.mpr fun x hx => by
  obtain ⟨n, _, rfl⟩ := List.mem_map.mp hx
  rfl
def dIn : DOp
  | .int i, .list xs, k => dInts xs fun ns => k (.bool (decide (i ∈ ns)))
  | .int i, .tuple xs, k => dInts xs fun ns => k (.bool (decide (i ∈ ns)))
  | _, _, _ => False
theorem ov_in : OpV X (compareOp .In) dIn := ⟨_, op_in_seq, fun G H v1 v2 x y k Q w d1 d2 o q => by
  unfold dIn at o
  split at o
  · obtain ⟨p, vs, rfl, hp, dv⟩ := d2.list w
    obtain ⟨ns, rfl, o⟩ := o
    rw [dv.ints] at hp
    refine ⟨p, _, rfl, .inl (sq hp), by rw [d1.int]; rfl, flat_ints ns, ?_⟩
    rw [d1.int, if_neg (by decide), inV_ints]
    exact q _ _ _ o (resF fun _ => .bl _)
  · obtain ⟨p, vs, rfl, hp, dv⟩ := d2.tuple w
    obtain ⟨ns, rfl, o⟩ := o
    rw [dv.ints] at hp
    refine ⟨p, _, rfl, .inr (sqt hp), by rw [d1.int]; rfl, flat_ints ns, ?_⟩
    rw [d1.int, if_neg (by decide), inV_ints]
    exact q _ _ _ o (resF fun _ => .bl _)
  · exact o.elim⟩
def dNotin : DOp
  | .int i, .list xs, k => dInts xs fun ns => k (.bool (!decide (i ∈ ns)))
  | .int i, .tuple xs, k => dInts xs fun ns => k (.bool (!decide (i ∈ ns)))
  | _, _, _ => False
theorem ov_notin : OpV X (compareOp .NotIn) dNotin := ⟨_, op_notIn_seq, fun G H v1 v2 x y k Q w d1 d2 o q => by
  unfold dNotin at o
  split at o
  · obtain ⟨p, vs, rfl, hp, dv⟩ := d2.list w
    obtain ⟨ns, rfl, o⟩ := o
    rw [dv.ints] at hp
    refine ⟨p, _, rfl, .inl (sq hp), by rw [d1.int]; rfl, flat_ints ns, ?_⟩
    rw [d1.int, if_pos (by decide), inV_ints]
    exact q _ _ _ o (resF fun _ => .bl _)
  · obtain ⟨p, vs, rfl, hp, dv⟩ := d2.tuple w
    obtain ⟨ns, rfl, o⟩ := o
    rw [dv.ints] at hp
    refine ⟨p, _, rfl, .inr (sqt hp), by rw [d1.int]; rfl, flat_ints ns, ?_⟩
    rw [d1.int, if_pos (by decide), inV_ints]
    exact q _ _ _ o (resF fun _ => .bl _)
  · exact o.elim⟩
/-- is None, is True, is False -/
def dIs : DOp
  | x, .none, k => k (.bool (match x with | .none => true | _ => false))
  | .bool a, .bool b, k => k (.bool (decide (a = b)))
  | _, _, _ => False
def dIsNot : DOp
  | x, .none, k => k (.bool (match x with | .none => false | _ => true))
  | .bool a, .bool b, k => k (.bool (!decide (a = b)))
  | _, _, _ => False
theorem ov_is : OpV X (compareOp .Is) dIs := ⟨_, op_or2 op_isN op_is_bl, fun G H v1 v2 x y k Q w d1 d2 o q => by
  unfold dIs at o
  split at o
  · refine .inl ⟨d2.none, ?_⟩
    rw [d1.isNone]
    refine q _ _ _ o ?_
    cases x <;> exact resF fun _ => .bl _
  · exact .inr ⟨_, _, d1.bool, d2.bool, q _ _ _ o (resF fun _ => .bl _)⟩
  · exact o.elim⟩
theorem ov_isnot : OpV X (compareOp .IsNot) dIsNot := ⟨_, op_or2 op_notN op_isnot_bl, fun G H v1 v2 x y k Q w d1 d2 o q => by
  unfold dIsNot at o
  split at o
  · refine .inl ⟨d2.none, ?_⟩
    rw [d1.isNone]
    refine q _ _ _ o ?_
    cases x <;> exact resF fun _ => .bl _
  · exact .inr ⟨_, _, d1.bool, d2.bool, q _ _ _ o (resF fun _ => .bl _)⟩
  · exact o.elim⟩
/-! ### calls by names -/
def perm (idx : List Nat) {α : Type} (l : List α) : List α := idx.filterMap (l[·]?)
theorem vals_get : ∀ {vs : List V} {us : List Value} (i : Nat), Vals vs us → (∃ v u, vs[i]? = some v ∧ us[i]? = some u ∧ RelV v u) ∨ (vs[i]? = none ∧ us[i]? = none)
  | _, _, _, .nil => .inr ⟨by simp, by simp⟩
  | _, _, 0, .cons r _ => .inl ⟨_, _, rfl, rfl, r⟩
  | _, _, i + 1, .cons _ t => by
    simp only [List.getElem?_cons_succ]
    exact vals_get i t
theorem vals_perm {vs : List V} {us : List Value} (h : Vals vs us) : ∀ idx : List Nat, Vals (perm idx vs) (perm idx us)
  | [] => .nil
  | i :: idx => by
    unfold perm
    rcases vals_get i h with ⟨v, u, hv, hu, r⟩ | ⟨hv, hu⟩
    · rw [List.filterMap_cons_some hv, List.filterMap_cons_some hu]
      exact .cons r (vals_perm h idx)
    · rw [List.filterMap_cons_none hv, List.filterMap_cons_none hu]
      exact vals_perm h idx
theorem dva_perm {G : Hp} {vs : List V} {ds : List PyData} (h : DvA G vs ds) : ∀ idx : List Nat, DvA G (perm idx vs) (perm idx ds)
  | [] => .nil
  | i :: idx => by
    unfold perm
    cases e : ds[i]? with
    | none =>
      have e2 : vs[i]? = none := by
        rw [List.getElem?_eq_none_iff] at e ⊢
        rw [h.len]
        exact e
      rw [List.filterMap_cons_none e, List.filterMap_cons_none e2]
      exact dva_perm h idx
    | some d =>
      obtain ⟨v, hv, dd⟩ := h.get e
      rw [List.filterMap_cons_some e, List.filterMap_cons_some hv]
      exact .cons dd (dva_perm h idx)
theorem names_perm {K : PySem.W.Frag} {mg : Str → Option Value} {x : Str} {st : Stmt} {ps ks : List Str} (idx : List Nat) (d : Df K mg x st ps) (h : ∀ (kV doc pm : Value) (an : Option Addr) (cdv ct : Value) (us : List Value), us.length = ks.length → bindArgs (PySem.W.fnOf x x (defArgs st) (defBody st) (defScope st) .none kV doc pm an cdv ct) ⟨[], ks.zip us⟩ = pure (ps.zip (perm idx us))) :
    Names d.fd ps ks (perm idx) := by
  obtain ⟨oc, od, kV, doc, pm, an, cdv, ct, osl, e, lk, hcd⟩ := d.F.ex
  refine ⟨fun s ws hl => ?_, fun h => vals_perm h idx⟩
  rw [e]
  exact .of_eq (h kV doc pm an cdv ct ws hl)
abbrev VKs (X : Cx) (Tb : List Addr) (kws : List Keyword) (f : VA) : Prop := PK X kws (cA Tb f)
theorem PK.imp {kws : List Keyword} {t u : TA} (h : PK X kws t) (i : ∀ σ H Q, u σ H Q → t σ H Q) : PK X kws u := ⟨fun pos pins s σ H Q I q => h.run pos pins s σ H Q I (i _ _ _ q)⟩
theorem vk_nil : VKs X Tb [] vNil := PK.imp pk_nil fun σ H Q ⟨F, O, env, k, R, h, q⟩ => q [] env [] H R .nil Gr.rfl h
theorem vk_cons {nm : Str} {kpos : Pos} {kws : List Keyword} (ha : VE X Tb e fa) (hr : VKs X Tb kws fs) : VKs X Tb (⟨some nm, e, kpos⟩ :: kws) (vCons fa fs) :=
  PK.imp (pk_cons ha hr) fun σ H Q ⟨F, O, env, k, R, h, q⟩ => ⟨F, O, env, _, R, h, fun w e1 v H1 R1 r1 g1 h1 => ⟨F, O, e1, _, R1, h1, fun ws e2 vs H2 R2 r2 g2 h2 => q (w :: ws) e2 (v :: vs) H2 R2 (.cons (r1.gr g2) r2) (g1.trans g2) h2⟩⟩
def vKw (f : Fc) (n : Nat) (idx : List Nat) (fs : VA) : VF := fun env k => fs env fun ws e1 => vDs (fun ds => ds.length = n ∧ f (perm idx ds) fun r => k (.d r) e1) (dsOf ws)
theorem ve_kw {f : Fc} {n : Nat} {idx : List Nat} (h : PE X e (tNames n (spD Tb f) (perm idx) (cA Tb fs))) : VE X Tb e (vKw f n idx fs) :=
  PE.imp h fun σ H Q ⟨F, O, env, k, R, h, q⟩ => ⟨F, O, env, _, R, h, fun ws e1 vs H1 R1 r1 g1 h1 => by
    obtain ⟨ds, ed, h1⟩ := vDs_of h1
    have dv := dsOf_dv r1 ed
    refine ⟨dv.len.trans h1.1, hid F O, perm idx ds, _, R1.hidS, dva_perm dv idx, R1.tb, h1.2, fun v r H2 x d h2 => ?_⟩
    obtain ⟨R2, g2⟩ := R1.grow x
    exact q (.d r) e1 v H2 R2 d (g1.trans g2) h2⟩
/-! ### xs.count(x) -/
def vCount (fa : VF) (fs : VA) : VF := fun env k => fa env fun w e => match lk e w with
  | some (.list _) => fs e fun ws e1 => (match lk e1 w, dsOf ws with
    | some (.list xs), some [.int i] => dInts xs fun ns => k (.d (.int (ns.count i : Nat))) e1
    | _, _ => False)
  | _ => False
theorem ve_count (h : PE X e (tBM X.K "list" (rCntI X.K) (cE Tb fa) (cA Tb fs))) : VE X Tb e (vCount fa fs) :=
  PE.imp h fun σ H Q ⟨F, O, env, k, R, h, q⟩ => ⟨F, O, env, _, R, h, fun w e0 v H0 R0 r0 g0 h0 => by
    split at h0
    · rename_i ys ey
      obtain ⟨a0, vs0, rfl, hl0, _⟩ := (R0.dl r0 ey).list view_vw
      refine ⟨ty_list hl0, F, O, e0, _, R0, h0, fun ws e1 us H1 R1 r1 g1 h1 => ?_⟩
      split at h1
      · rename_i xs i ex ed
        obtain ⟨a1, vs1, ea, hl1, dv⟩ := (R1.dl (r0.gr g1) ex).list view_vw
        cases ea
        obtain ⟨ns, rfl, h1⟩ := h1
        rw [dv.ints] at hl1
        have dd := dsOf_dv r1 ed
        cases dd with
        | cons d1 d2 =>
          cases d2
          cases d1
          exact ⟨a0, ns, i, rfl, rfl, sq hl1, q (.d (.int (ns.count i : Nat))) e1 _ H1 R1 (Dv.int _) (g0.trans g1) h1⟩
      · exact h1.elim
    · exact h0.elim⟩
/-- slices of lists and tuples -/
def dSlA (lo hi : Option Int) : PyData → (PyData → Prop) → Prop
  | .list xs, k => k (.list (cutD xs lo hi))
  | .tuple xs, k => k (.tuple (cutD xs lo hi))
  | _, _ => False
def vSlA (fa : VF) (fl fh : VO) : VF := fun env k => fa env fun w e1 => fl e1 fun lo e2 => fh e2 fun hi e3 => vOne (dSlA lo hi) (lk e3 w) fun z => k (.d z) e3
theorem ve_sliceA {lo hi : Option Expr} {fl fh : VO} {p2 : Pos} (ha : VE X Tb a fa) (hl : VOt X Tb lo fl) (hh : VOt X Tb hi fh) : VE X Tb (.Subscript a (.Slice lo hi none p2) pos) (vSlA fa fl fh) :=
  PE.imp (pe_slice (SlR.or sl_list sl_tupA) ha hl hh) fun σ H Q ⟨F, O, env, k, R, h, q⟩ => ⟨F, O, env, _, R, h, fun w e1 v H1 R1 r1 g1 h1 => ⟨F, O, e1, _, R1, h1, fun lo e2 H2 R2 g2 h2 => ⟨F, O, e2, _, R2, h2, fun hi e3 H3 R3 g3 h3 => by
    obtain ⟨d, ed, h3⟩ := vOne_of h3
    unfold dSlA at h3
    split at h3
    · obtain ⟨p, vs, rfl, hp, dv⟩ := (R3.dl (r1.gr (g2.trans g3)) ed).list view_vw
      refine .inl ⟨p, vs, rfl, sq hp, fun p hp => ?_⟩
      obtain ⟨R4, r4, g4⟩ := R3.res (res_lst (fun a => vw_none) hp (dv.cut lo hi))
      exact q _ e3 _ _ R4 r4 (g1.trans (g2.trans (g3.trans g4))) h3
    · rename_i xs
      obtain ⟨p, vs, rfl, hp, dv⟩ := (R3.dl (r1.gr (g2.trans g3)) ed).tuple view_vw
      have dt := Dl.dv view_vw.toLe (R3.dl (r1.gr (g2.trans g3)) ed)
      refine .inr ⟨p, vs, rfl, sqt hp, fun z => ?_, fun _ p hp => ?_⟩
      · have e : cutD xs lo hi = xs := by
          unfold cutD
          rw [← dv.len, z.1, z.2, List.drop_zero, Nat.sub_zero, List.take_of_length_le (Nat.le_of_eq dv.len.symm)]
        rw [e] at h3
        have rw0 := R3.dl (r1.gr (g2.trans g3)) ed
        have dG : Dv (vw F O H3) (.ref p) (.tuple xs) := by
          rcases rw0 with h | ⟨a, vs, ys, _, e, _, _⟩
          · exact h
          · cases e
        exact q (.d (.tuple xs)) e3 _ _ R3 dG (g1.trans (g2.trans g3)) h3
      · obtain ⟨R4, r4, g4⟩ := R3.res (res_tup (fun a => vw_none) hp (dv.cut lo hi))
        exact q _ e3 _ _ R4 r4 (g1.trans (g2.trans (g3.trans g4))) h3
    · exact h3.elim⟩⟩⟩
/-- a, b, c = x, y, z -/
def vPar3 (i j l : Nat) (fs : VA) : VG := fun E env => fs env fun ws e => match dsOf ws with
  | some [x, y, z] => (i < e.length ∧ j < e.length ∧ l < e.length) ∧ E.nx (((e.set i (.d x)).set j (.d y)).set l (.d z))
  | _ => False
theorem vs_par3 {st : Stmt} {i j l : Nat} (h : PS X st (tPar3 i j l (cA Tb fs))) : VS X Tb st (vPar3 i j l fs) :=
  PS.imp h fun D σ H ⟨F, O, env, E, R, h, C⟩ => ⟨F, O, env, _, R, h, fun ws e1 vs H1 R1 r1 gr1 h1 => by
    split at h1
    · rename_i x y z ed
      have d := dsOf_dv r1 ed
      cases d with
      | cons d1 d2 =>
        cases d2 with
        | cons d2 d3 =>
          cases d3 with
          | cons d3 d4 =>
            cases d4
            refine ⟨_, _, _, rfl, ?_⟩
            have R2 := R1.putD h1.1.1 d1
            have R3 := R2.putD (i := j) (by rw [List.length_set]; exact h1.1.2.1) (Dv.le vw_clr _ _ d2)
            have R4 := R3.putD (i := l) (by rw [List.length_set, List.length_set]; exact h1.1.2.2) (Dv.le vw_clr _ _ (Dv.le vw_clr _ _ d3))
            exact C.nx _ _ _ _ R4 h1.2
    · exact h1.elim⟩
/-- what stands behind a statement, whatever way it was left -/
def vSeqJ (g1 g2 : VG) : VG := fun E env => ∃ Inv : En → Prop, g1 { E with nx := Inv } env ∧ ∀ e, Inv e → Go g2 E e
theorem vss_consJ {st : Stmt} {rest : List Stmt} {g1 g2 : VG} (h1 : VS X Tb st g1) (h2 : VSs X Tb rest g2) : VSs X Tb (st :: rest) (vSeqJ g1 g2) :=
  PSs.imp (pss_cons h1 h2) fun D σ H ⟨F, O, env, E, R, ⟨Iv, h, hr⟩, C⟩ => ⟨F, O, env, _, R, h, ⟨fun O σ H env R h => ⟨F, O, env, E, R, hr env h, C⟩, C.rt, C.bk, C.ct, C.ro⟩⟩
end
theorem ints_of {ns : List Int} {k : List Int → Prop} (h : k ns) : dInts (ns.map .int) k := ⟨ns, rfl, h⟩
theorem cutD_53 (a b c d e : PyData) : cutD [a, b, c, d, e] (some 3) none = [d, e] := rfl
/-! ### equal data -/
theorem eqv_ii (a b : Int) : PyData.eqv (.int a) (.int b) = decide (a = b) := by
  show (a == b) = _
  by_cases h : a = b <;> simp [h]
theorem eqvAll_ints : ∀ xs ys : List Int, PyData.eqvAll (xs.map .int) (ys.map .int) = decide (xs = ys)
  | [], [] => rfl
  | [], _ :: _ => by simp [PyData.eqvAll]
  | _ :: _, [] => by simp [PyData.eqvAll]
  | x :: xs, y :: ys => by
    rw [List.map_cons, List.map_cons, PyData.eqvAll, eqv_ii, eqvAll_ints xs ys, ← Bool.decide_and]
    simp
theorem eqv_ilil (a b : List Int) : PyData.eqv (il a) (il b) = decide (a = b) := by
  show PyData.eqv (.list _) (.list _) = _
  rw [PyData.eqv]
  exact eqvAll_ints a b
theorem eqv_il0 (a : List Int) : PyData.eqv (il a) (.list []) = decide (a = []) := eqv_ilil a []
theorem shaped_l0 : SeqAt.shaped (.list []) = true := by decide
end Sp
end

section
set_option maxHeartbeats 4000000
/-! a list's part put in another's place, for any bounds that a step of one allows: by its pieces -/
namespace Sp
open PySem PySem.Spec PyProof.Rows L2
section
variable {prog : Program} {w : World} {A : Around} {E : Value → Shared → Prop} {s : Shared}
/-- a part of a thing, and what goes on with it -/
theorem fld {β : Type} {a : Addr} {o : Obj} {xs : Array Value} {i : Nat} {x : Value} {f : Value → Sem β} {Q : β → Shared → Prop} (g : s.heap.get? a = some o) (d : o.data = .fields xs) (hx : xs[i]? = some x)
    (h : wpAny (model prog w) A (f x) Q E s) : wpAny (model prog w) A (field (.ref a) i >>= f) Q E s := wpAny_bind (wpAny_field g d hx h)
theorem prt {β : Type} {v : Value} {k : Option Int} {f : Value → Sem β} {Q : β → Shared → Prop} (p : IsPart v k) (h : wpAny (model prog w) A (f (rawPart k)) Q E s) : wpAny (model prog w) A (listPart v >>= f) Q E s := wpAny_bind (wpAny_listPart p h)
/-- the three parts of a slice -/
theorem cut_parts {sl : Addr} {v1 v2 : Value} {lo hi : Option Int} {Q : Value × Value × Value → Shared → Prop} (hs : s.heap.IsSliceOf sl v1 v2 .none) (p1 : IsPart v1 lo) (p2 : IsPart v2 hi)
    (q : Q (rawPart lo, rawPart hi, rawPart none) s) : wpAny (model prog w) A (Builtin.List.listSliceParts (.ref sl)) Q E s := by
  have ⟨o, g, _, d⟩ := hs
  rw [listSliceParts_eq]
  have no0 : (rawPart none == rawInt 0) = false := rfl
  refine fld (i := 2) (x := .none) g d rfl (prt .none ?_)
  rw [no0]
  exact fld (i := 0) (x := v1) g d rfl (prt p1 (fld (i := 1) (x := v2) g d rfl (prt p2 (wpAny_pure q))))
/-- a slice is no whole number: the way on -/
theorem cut_nope {β : Type} {sl : Addr} {f : Option Int → Sem β} {Q : β → Shared → Prop} (ts : s.TypeIs (.ref sl) "slice") (q : wpAny (model prog w) A (f none) Q E s) : wpAny (model prog w) A (Builtin.List.listSubscript? (.ref sl) >>= f) Q E s := by
  have e : wpAny (model prog w) A (Builtin.List.listSubscript? (.ref sl)) (fun r s' => r = none ∧ s' = s) E s := by
    unfold Builtin.List.listSubscript?
    exact wpAny_bind (wpAny_specialOf ts slice_no_index (wpAny_pure ⟨rfl, rfl⟩))
  exact wpAny_bind (thn e fun r s' ⟨h1, h2⟩ => by subst h1 h2; exact q)
/-- what is to be put in -/
theorem all_there {β : Type} {b : Addr} {new : Array Value} {n2 : Nat} {m : String} {f : Array Value → Sem β} {Q : β → Shared → Prop} (g : s.heap.get? b = some { cls := .type "list", data := .seq new n2 }) (q : wpAny (model prog w) A (f new) Q E s) : wpAny (model prog w) A (Builtin.List.listAllItems (.ref b) m >>= f) Q E s := by
  have e : wpAny (model prog w) A (Builtin.List.listAllItems (.ref b) m) (fun r s' => r = new ∧ s' = s) E s := by
    unfold Builtin.List.listAllItems
    refine wpAny_bind (wpAny_typeOf (PySem.IsL.isList g).typeIs ?_)
    rw [if_pos (by decide)]
    exact wpAny_bind (wpAny_seqItems g rfl (wpAny_pure ⟨rfl, rfl⟩))
  exact wpAny_bind (thn e fun r s' ⟨h1, h2⟩ => by subst h1 h2; exact q)
/-- the list that is told to take another's things between two places -/
theorem put_between {l b sl : Addr} {old new : Array Value} {n n2 : Nat} {v1 v2 : Value} {lo hi : Option Int} {i j : Nat} {Q : Unit → Shared → Prop} (g : s.heap.get? l = some { cls := .type "list", data := .seq old n })
    (g2 : s.heap.get? b = some { cls := .type "list", data := .seq new n2 }) (apart : l ≠ b) (hs : s.heap.IsSliceOf sl v1 v2 .none) (p1 : IsPart v1 lo) (p2 : IsPart v2 hi) (hb : sliceBounds lo hi none old.size = ((i : Int), (j : Int), 1)) (hij : i ≤ j)
    (z : old.size + new.size ≤ sizeLine) (q : Q () { s with heap := s.heap.update l (Obj.mapSeq fun a => a.extract 0 i ++ new ++ a.extract j a.size) }) : wpAny (model prog w) A (setItem (.ref l) (.ref sl) (.ref b)) Q E s := by
  have il := PySem.IsL.isList g
  have tsl : s.TypeIs (.ref sl) "slice" := hs.elim fun o h => ⟨o, h.1, h.2.1⟩
  have other : Builtin.List.listSameRef (.ref l) (.ref b) = false := beq_eq_false_iff_ne.mpr apart
  have ends : (max (i : Int) (j : Int)).toNat = j := by omega
  unfold setItem
  refine wpAny_holding (wpAny_bind (wpAny_sequenceKey il.typeIs (by decide) (wpAny_bind ?_)))
  refine wpAny_callSpecial?_slot (name := Str.ofString "__setitem__") il.typeIs slot_list_setitem (wpAny_call_entry slot_list_setitem il.typeIs entry_list_setitem ?_ (args_list_setitem _ _ _))
  show wpAny _ _ (Builtin.List.listSubscript? (.ref sl) >>= _) _ _ s
  refine cut_nope tsl ?_
  show wpAny _ _ (typeOf (.ref sl) >>= _) _ _ s
  refine wpAny_bind (wpAny_typeOf tsl ?_)
  rw [if_neg (by decide)]
  refine wpAny_bind (cut_parts hs p1 p2 ?_)
  dsimp only
  rw [other]
  show wpAny _ _ (Builtin.List.listAllItems (.ref b) _ >>= _) _ _ s
  refine all_there g2 ?_
  show wpAny _ _ (Builtin.List.listItems (.ref l) >>= _) _ _ s
  have where_ : sliceIndices (rawPart lo) (rawPart hi) (rawPart none) old.size = pure ((i : Int), (j : Int), (1 : Int)) := by rw [sliceIndices_raw lo hi none old.size (fun e => nomatch e), hb]
  have room : Builtin.List.listTooLong (old.size + new.size) = false := notLongL z
  refine wpAny_bind (m := Builtin.List.listItems (.ref l)) ?_
  unfold Builtin.List.listItems
  refine wpAny_bind (wpAny_seqItems g rfl (wpAny_pure (wpAny_bind (wpAny_of_eq where_ ?_))))
  show wpAny _ _ (if ((1 : Int) == 1) = true then _ else _) _ _ s
  rw [if_pos (by decide)]
  refine wpAny_bind (wpAny_rule ?_)
  rw [room]
  show wpAny _ _ (updateSeq l (fun a => a.extract 0 ((i : Int)).toNat ++ new ++ a.extract (max (i : Int) (j : Int)).toNat a.size) >>= _) _ _ s
  rw [ends, Int.toNat_natCast]
  have z1 : old.size ≤ sizeLine := by omega
  have z2 : ((fun a : Array Value => a.extract 0 i ++ new ++ a.extract j a.size) old).size ≤ sizeLine + 1 := by
    simp only [Array.size_append, Array.size_extract]
    omega
  exact wpAny_bind (wpAny_updateSeq (hz := z1) (_hz' := z2) g rfl (wpAny_bind (wpAny_letGo (wpAny_pure ⟨.none, rfl, wpAny_pure q⟩))))
/-- the last so many taken out, others put there -/
theorem store_tail {l b sl : Addr} {items new : Array Value} {n n2 : Nat} {vl : Value} {k : Nat} {Q : Unit → Shared → Prop} (g : s.heap.get? l = some { cls := .type "list", data := .seq items n }) (g2 : s.heap.get? b = some { cls := .type "list", data := .seq new n2 })
    (apart : l ≠ b) (hs : s.heap.IsSliceOf sl vl .none .none) (pl : IsPart vl (some (-(k : Int)))) (k0 : 0 < k) (k1 : k ≤ items.size) (z : items.size + new.size ≤ sizeLine)
    (q : Q () { s with heap := s.heap.update l (Obj.mapSeq fun a => a.extract 0 (items.size - k) ++ new ++ a.extract items.size a.size) }) : wpAny (model prog w) A (setItem (.ref l) (.ref sl) (.ref b)) Q E s := by
  refine put_between g g2 apart hs pl .none ?_ (by omega) z q
  unfold sliceBounds
  have neg : -(k : Int) < 0 := by omega
  have e : max (0 : Int) (min (-(k : Int) + (items.size : Int)) (items.size : Int)) = ((items.size - k : Nat) : Int) := by omega
  simp [neg, k0, e]
end
end Sp
end

section
set_option maxHeartbeats 4000000
/-! the store xs[-k:] = ys by values -/
namespace Sp
open PySem PySem.Spec PyProof.Rows L2
section
variable {X : Cx}
theorem set_tail {pins : List (Addr × Obj)} {s : Shared} {σ : L2.St} {H : Hp} {l b sl : Addr} {xs ys : List V} {k : Nat} {vl : Value} {Q : Unit → Shared → Prop} (I : Inv X pins σ H s)
    (hH : H l = some (.lst xs)) (hB : H b = some (.lst ys)) (hne : l ≠ b) (hs : s.heap.IsSliceOf sl vl .none .none) (ra : RelV (.int (-(k : Int))) vl) (h0 : 0 < k) (hk : k ≤ xs.length)
    (hz : xs.length + ys.length ≤ sizeLine) (h : ∀ s', Inv X pins σ (upd H l (.lst (xs.take (xs.length - k) ++ ys))) s' → Q () s') :
    wpAny (model X.prog X.w) X.A (setItem (.ref l) (.ref sl) (.ref b)) Q X.xe s := by
  obtain ⟨t, rfl⟩ := ra
  obtain ⟨z, its, n, r, hl, e⟩ := I.lstM hH
  obtain ⟨z2, its2, n2, r2, hl2, e2⟩ := I.lstM hB
  have zs : its.toArray.size = its.length := List.size_toArray
  have zs2 : its2.toArray.size = its2.length := List.size_toArray
  refine store_tail e e2 hne hs (.int _ _) h0 (by omega) (by omega) (h _ ?_)
  refine I.lset (its' := its.take (its.length - k) ++ its2) (t' := s.toks) hH e ?_ ?_ ?_
  · rw [zs]
    show its.toArray.extract 0 (its.length - k) ++ its2.toArray ++ its.toArray.extract its.length its.toArray.size = _
    rw [splice_eq its its2 (its.length - k) its.length, List.drop_length, List.append_nil]
  · rw [hl]
    exact Vals.append (r.take _) r2
  · rw [List.length_append, List.length_take]
    omega
/-- xs[-k:] = ys as a target: the value comes first -/
def gTail (to tl : TE) (k : Nat) : TG := fun v σ H Q => to σ H fun o H1 => tl σ H1 fun i H2 => ∃ l b xs ys, o = .ref l ∧ i = .int (-(k : Int)) ∧ v = .ref b ∧ H2 l = some (.lst xs) ∧ H2 b = some (.lst ys) ∧ l ≠ b ∧ k ≤ xs.length ∧ xs.length + ys.length ≤ sizeLine ∧ Q σ (upd H2 l (.lst (xs.take (xs.length - k) ++ ys)))
theorem pg_tail {o lo : Expr} {to tl : TE} {p2 pos : Pos} (k : Nat) (h0 : 0 < k) (ho : PE X o to) (hl : PE X lo tl) : PG X (.Subscript o (.Slice (some lo) none none p2) pos) (gTail to tl k) := by
  refine ⟨fun pins s σ H v u Q I r h => ?_⟩
  rw [arm_assign_Subscript]
  refine wpAny_bind (wpAny_holding (thn (ho.run pins s σ H _ I h) fun ov s1 ⟨x, H1, I1, r1, q1⟩ => ?_))
  refine wpAny_bind (wpAny_holding (wpAny_Slice ?_))
  rw [evalPart_some]
  refine thn (hl.run pins s1 σ H1 _ I1 q1) fun iv s2 ⟨y, H2, I2, r2, q2⟩ => ?_
  rw [evalPart_none]
  refine wpAny_pure (wpAny_pure ?_)
  obtain ⟨l, b, xs, ys, rfl, rfl, rfl, h1, h2, h3, h4, h5, q⟩ := q2
  cases r1
  cases r
  have I3 : Inv X pins σ H2 { s2 with heap := s2.heap.push { cls := .type "slice", data := .fields #[iv, .none, .none] } } := I2.kept (t' := s2.toks) fun b ob q => Heap.get?_push_of_some _ q
  refine wpAny_bind (wpAny_standAt (wpAny_bind (wpAny_holding (set_tail I3 h1 h2 h3 (Heap.IsSliceOf.new ..) r2 h0 h4 h5 fun s' I4 => ?_))))
  exact wpAny_release ⟨σ, _, I4, q⟩
end
end Sp
end

section
set_option maxHeartbeats 4000000
/-! xs[-1] += x; xs[-k:] = ys. -/
namespace Sp
open PySem PySem.Spec PyProof.Rows L2
/-- xs[-1] as what an in-place addition reads -/
theorem pget_back {X : Cx} : PGet X fun o i H Q => i = .int (-1) ∧ rIxL X.K o i H Q := by
  intro pins s σ H o i ov iv Q I ro ri h
  obtain ⟨rfl, p, xs, k, z, rfl, hk, hq, he, q⟩ := h
  cases hk
  cases ro
  obtain ⟨t, rfl⟩ := ri
  obtain ⟨its, r, pl, hz⟩ := I.list hq
  obtain ⟨j, h1, h2, h3, h4, h5⟩ := atI_get he
  obtain ⟨w, ew, rw'⟩ := r.get h2
  have hl := r.length
  have hj : (-1 + (its.toArray.size : Int)).toNat = j := by
    rw [seqIndex_neg (by omega) h4] at h1
    rw [List.size_toArray, ← hl]
    exact Option.some.inj h1
  exact wpAny_getItem_list_neg pl.isList (by omega) (by rw [List.size_toArray] <;> omega) (by omega) (by rw [hj]; simpa using ew) ⟨z, H, I, rw', q⟩
section
variable {X : Cx} {Tb : List Addr} {a b c d e : Expr} {fa fb fc fd : VF} {pos p : Pos} {es : List Expr} {fs : VA} {st : Stmt}
/-- xs[-1] += x -/
def vAugS (i : Nat) (fa : VF) : VG := fun E env => match env[i]? with
  | some (.o xs) => ∃ ys x, xs = ys ++ [.int x] ∧ fa env fun w2 e2 => (match w2 with
    | .d (.int y) => e2[i]? = some (.o xs) ∧ E.nx (e2.set i (.o (ys ++ [.int (x + y)])))
    | _ => False)
  | _ => False
theorem DvA.split {G : Hp} : ∀ {ys : List PyData} {zs : List PyData} {vs : List V}, DvA G vs (ys ++ zs) → ∃ us ws, vs = us ++ ws ∧ DvA G us ys ∧ DvA G ws zs
  | [], _, _, h => ⟨[], _, rfl, .nil, h⟩
  | y :: ys, _, _, h => by
    cases h with
    | cons a b =>
      obtain ⟨us, ws, rfl, h1, h2⟩ := b.split
      exact ⟨_ :: us, ws, rfl, .cons a h1, h2⟩
theorem vs_augB {i : Nat} {ti : TE} (hi : ∀ σ H Q, Q (.int (-1)) H → ti σ H Q) (h : PS X st (tAugS (tVar i) ti (cE Tb fa) (fun o i H Q => i = .int (-1) ∧ rIxL X.K o i H Q) (ipI fun i j => i + j) rSetL)) : VS X Tb st (vAugS i fa) :=
  PS.imp h fun D σ H ⟨F, O, env, E, R, h, C⟩ => by
    unfold vAugS at h
    split at h
    · rename_i xs ez
      obtain ⟨ys, x, rfl, h⟩ := h
      obtain ⟨v, hv, a, vs, rfl, ho, ha, dv⟩ := R.slot ez
      obtain ⟨us, ws, rfl, d1, d2⟩ := dv.split
      cases d2 with
      | cons dx d3 =>
        cases d3
        cases dx
        refine ⟨_, hv, hi _ _ _ ⟨rfl, a, _, -1, _, rfl, rfl, sq ha, atI_last us (V.int x), ?_⟩⟩
        refine ⟨F, O, env, _, R, h, fun w2 e2 v2 H2 R2 r2 g2 h2 => ?_⟩
        split at h2
        · rename_i y
          cases r2
          obtain ⟨e2i, h2⟩ := h2
          obtain ⟨_, _, a2, vs2, rfl, ho2, ha2, dv2⟩ := R2.slot e2i
          rw [ho] at ho2
          cases ho2
          obtain ⟨us2, ws2, rfl, e1, e3⟩ := dv2.split
          cases e3 with
          | cons ex e4 =>
            cases e4
            cases ex
            refine ⟨x, y, rfl, rfl, a, _, -1, us2.length, rfl, rfl, ha2, ?_, ?_⟩
            · unfold ixN
              rw [List.length_append, if_neg (by decide), if_pos (by simp; omega)]
              congr 1
              simp
              omega
            · have es : (us2 ++ [V.int x]).set us2.length (.int (x + y)) = us2 ++ [.int (x + y)] := by
                rw [List.set_append_right _ _ (Nat.le_refl _), Nat.sub_self]
                rfl
              rw [es]
              obtain ⟨R3, g3⟩ := R2.write e2i ho ha2 (e1.app (.cons (Dv.int (x + y)) .nil))
              exact C.nx _ _ _ _ R3 h2
        · exact h2.elim
    · exact h.elim
/-- xs[-k:] = ys -/
def vTail (i k : Nat) (fa : VF) : VG := fun E env => fa env fun w e => match w with
  | .d (.list ys) => (match e[i]? with
    | some (.o xs) => (k ≤ xs.length ∧ xs.length + ys.length ≤ sizeLine) ∧ E.nx (e.set i (.o (xs.take (xs.length - k) ++ ys)))
    | _ => False)
  | _ => False
theorem vs_tail {i k : Nat} {tl : TE} (hl : ∀ σ H Q, Q (.int (-(k : Int))) H → tl σ H Q) (h : PS X st (tAsg (cE Tb fa) (gTail (tVar i) tl k))) : VS X Tb st (vTail i k fa) :=
  PS.imp h fun D σ H ⟨F, O, env, E, R, h, C⟩ => ⟨F, O, env, _, R, h, fun w e1 v H1 R1 r1 gr1 h1 => by
    split at h1
    · rename_i ys
      split at h1
      · rename_i xs ex
        obtain ⟨u, hu, a, vs, rfl, ho, ha, dv⟩ := R1.slot ex
        have r1 : Dv (vw F O H1) v (.list ys) := r1
        cases r1 with
        | @lst b ws _ eb dw =>
          obtain ⟨nb, eb2⟩ := hide_some eb
          refine ⟨_, hu, hl _ _ _ ⟨a, b, vs, ws, rfl, rfl, rfl, ha, eb2, fun z => nb (.inr ⟨i, by rw [← z]; exact ho⟩), by rw [dv.len]; exact h1.1.1, by rw [dv.len, dw.len]; exact h1.1.2, ?_⟩⟩
          rw [dv.len]
          obtain ⟨R2, g2⟩ := R1.write ex ho ha ((dv.take (xs.length - k)).app dw)
          exact C.nx _ _ _ _ R2 h1.2
      · exact h1.elim
    · exact h1.elim⟩
theorem b2_mono {i j : Nat} : ∀ (x : PyData) (P Q : En → Prop), (∀ e, P e → Q e) → ∀ e, bTup 2 (bCons (bName i) (bCons (bName j) bNil)) x e P → bTup 2 (bCons (bName i) (bCons (bName j) bNil)) x e Q := fun x P Q h e z => by
  cases x with
  | tuple xs =>
    obtain ⟨z1, z2⟩ := z
    refine ⟨z1, ?_⟩
    match xs, z2 with
    | [a, b], z2 =>
      obtain ⟨z3, z4, z5, z6⟩ := z2
      exact ⟨z3, z4, z5, h _ z6⟩
  | _ => exact z.elim
/-- [f(x, y) for x, y in ..] -/
theorem lc_map2 {n : Nat} {it : Nat → Option PyData} {i j : Nat} {fe : VF} {e1 : En} {k : W → En → Prop} (L : List PyData) (hl : L.length = n) (hz : n ≤ sizeLine) (hs : ([i, j].all fun j => !isOwn e1[j]? && decide (j < e1.length)) = true)
    (hst : ∀ (q : Nat) (x y : PyData) (Z : PyData → En → Prop), q < n → it q = some x → L[q]? = some y → (∀ e4, unset e4 [i, j] = unset e1 [i, j] → Z y e4) → bTup 2 (bCons (bName i) (bCons (bName j) bNil)) x (unset e1 [i, j]) fun e2 => vYes e2 fun c e3 => if c = true then fe e3 (vD Z) else False)
    (hk : k (.d (.list L)) (back e1 (unset e1 [i, j]) [i, j])) : LcGoal n it (bTup 2 (bCons (bName i) (bCons (bName j) bNil))) vYes fe [i, j] e1 k :=
  lc_map L hl hz hs hst hk yes_mono b2_mono
end
end Sp
end

section
set_option maxHeartbeats 4000000
namespace Sp
open PySem PySem.Spec PyProof.Rows L2
local macro_rules | `(tactic| decreasing_trivial_pre_omega) => `(tactic| ((try simp only [vSeq, vSeqJ, vAsg, vTell, bName, vVar, vC, vOp, vTwo, vOne, vUn, lk, vTOp, wB, vTrue, dTrue, vNot, vAnd, vOr, vAndV, vOrV, vNotV, vB, vIf, vNil, vCons, dsOf, vTup, vLst, vDs, Option.map_some, dI, dSub, dAdd, dMul, dMod, dDiv, dPow, dLt, dLe, dGt, dGe, dEq, dNe, dNeg, dIx, vNoPart, vPart, wI, vSl, dSl, dRev, lks, vCB, dLen, dAbs, dMax2, dMin2, dSum, dMax1, dMin1, dInt1, dListOf, dTupleOf, dSorted, dSortedR, vFn, vFnC, bNil, bCons, bTup, vFrz, vIfS, vRet, vDrop, vOwn, vOwnL, vPopAt, dAll, dAny, vPar, vAug, vApp, vPop, vRevM, vExt, vPut, iL, iT, iR1, iR2, iEn, iZp, vFor, vWhile, vLc, sz, vYes, vD, vChain, vTChain, vIsi, vAll, isInt, isBool, isList, isTuple, dIsN, dNotN, vTFour, vIff, vAllT, isLT, dIn, dNotin, dIs, dIsNot, vSlA, dSlA, vAugS, vTail, vKw, vCount, vPar3, List.mem_cons, List.not_mem_nil, List.length_cons, List.length_nil, List.getElem?_cons_zero, List.getElem?_cons_succ, List.getElem?_nil, List.set_cons_zero, List.set_cons_succ, unset, back, isOwn, env0, envC, List.map_cons, List.map_nil, List.cons_append, List.nil_append, List.replicate_succ, List.replicate_zero, Nat.reduceAdd, Nat.reduceSub, Nat.reduceLT, Nat.reduceLeDiff, Int.reduceLE, Int.reduceLT, Int.reduceNeg, Int.reduceToNat, Int.reducePow, Int.reduceAdd, Int.reduceSub, Int.reduceMul, Int.cast_ofNat_Int, Int.natCast_zero, Int.reduceEq, not_true_eq_false, not_false_eq_true, false_and, and_false, false_or, or_false, true_or, or_true, Nat.zero_add, Nat.zero_le, true_and, and_true, if_true, if_false, Bool.false_eq_true, Bool.not_true, Bool.not_false, List.all_cons, List.all_nil, Bool.and_true, Bool.true_and, decide_true, Option.getD_some, Option.getD_none, reduceCtorEq, decide_eq_true_eq, Bool.not_eq_true', decide_eq_false_iff_not]); (repeat (refine go ?_; try simp only [vSeq, vSeqJ, vAsg, vTell, bName, vVar, vC, vOp, vTwo, vOne, vUn, lk, vTOp, wB, vTrue, dTrue, vNot, vAnd, vOr, vAndV, vOrV, vNotV, vB, vIf, vNil, vCons, dsOf, vTup, vLst, vDs, Option.map_some, dI, dSub, dAdd, dMul, dMod, dDiv, dPow, dLt, dLe, dGt, dGe, dEq, dNe, dNeg, dIx, vNoPart, vPart, wI, vSl, dSl, dRev, lks, vCB, dLen, dAbs, dMax2, dMin2, dSum, dMax1, dMin1, dInt1, dListOf, dTupleOf, dSorted, dSortedR, vFn, vFnC, bNil, bCons, bTup, vFrz, vIfS, vRet, vDrop, vOwn, vOwnL, vPopAt, dAll, dAny, vPar, vAug, vApp, vPop, vRevM, vExt, vPut, iL, iT, iR1, iR2, iEn, iZp, vFor, vWhile, vLc, sz, vYes, vD, vChain, vTChain, vIsi, vAll, isInt, isBool, isList, isTuple, dIsN, dNotN, vTFour, vIff, vAllT, dIn, dNotin, dIs, dIsNot, vSlA, dSlA, vAugS, vTail, vKw, vCount, vPar3, List.mem_cons, List.not_mem_nil, List.length_cons, List.length_nil, List.getElem?_cons_zero, List.getElem?_cons_succ, List.getElem?_nil, List.set_cons_zero, List.set_cons_succ, unset, back, isOwn, env0, envC, List.map_cons, List.map_nil, List.cons_append, List.nil_append, List.replicate_succ, List.replicate_zero, Nat.reduceAdd, Nat.reduceSub, Nat.reduceLT, Nat.reduceLeDiff, Int.reduceLE, Int.reduceLT, Int.reduceNeg, Int.reduceToNat, Int.reducePow, Int.reduceAdd, Int.reduceSub, Int.reduceMul, Int.cast_ofNat_Int, Int.natCast_zero, Int.reduceEq, not_true_eq_false, not_false_eq_true, false_and, and_false, false_or, or_false, true_or, or_true, Nat.zero_add, Nat.zero_le, true_and, and_true, if_true, if_false, Bool.false_eq_true, Bool.not_true, Bool.not_false, List.all_cons, List.all_nil, Bool.and_true, Bool.true_and, decide_true, Option.getD_some, Option.getD_none, reduceCtorEq, decide_eq_true_eq, Bool.not_eq_true', decide_eq_false_iff_not]))))
def topS (i : Nat) : Stmt := PySem.Challenge.pw_spillmirror_k19_no_mirrors.main.body.getD i (.Pass ⟨0, 0, 0, 0⟩)
abbrev s_is_whole : Stmt := topS 9
theorem sc_is_whole : FnScope ["thing"] ["thing"] (defScope s_is_whole) := ⟨rfl, rfl, rfl, by decide +kernel, rfl, by decide +kernel, by decide +kernel⟩
abbrev s_is_days : Stmt := topS 10
theorem sc_is_days : FnScope ["thing"] ["thing"] (defScope s_is_days) := ⟨rfl, rfl, rfl, by decide +kernel, rfl, by decide +kernel, by decide +kernel⟩
abbrev s_sums_of : Stmt := topS 12
theorem sc_sums_of : FnScope ["steps", "told", "step"] ["steps"] (defScope s_sums_of) := ⟨rfl, rfl, rfl, by decide +kernel, rfl, by decide +kernel, by decide +kernel⟩
abbrev s_need_steps : Stmt := topS 15
theorem sc_need_steps : FnScope ["steps"] ["steps"] (defScope s_need_steps) := ⟨rfl, rfl, rfl, by decide +kernel, rfl, by decide +kernel, by decide +kernel⟩
abbrev s_falls_of_spills : Stmt := topS 16
theorem sc_falls_of_spills : FnScope ["told", "falls", "more", "less"] ["told"] (defScope s_falls_of_spills) := ⟨rfl, rfl, rfl, by decide +kernel, rfl, by decide +kernel, by decide +kernel⟩
abbrev s_rises_of_bests : Stmt := topS 17
theorem sc_rises_of_bests : FnScope ["told", "rises", "less", "more"] ["told"] (defScope s_rises_of_bests) := ⟨rfl, rfl, rfl, by decide +kernel, rfl, by decide +kernel, by decide +kernel⟩
abbrev s_turned : Stmt := topS 18
theorem sc_turned : FnScope ["steps", "greatest", "many", "told", "size"] ["steps"] (defScope s_turned) := ⟨rfl, rfl, rfl, by decide +kernel, rfl, by decide +kernel, by decide +kernel⟩
abbrev s_bests_of : Stmt := topS 19
theorem sc_bests_of : FnScope ["told"] ["told"] (defScope s_bests_of) := ⟨rfl, rfl, rfl, by decide +kernel, rfl, by decide +kernel, by decide +kernel⟩
abbrev s_spills_of : Stmt := topS 20
theorem sc_spills_of : FnScope ["told", "falls"] ["told"] (defScope s_spills_of) := ⟨rfl, rfl, rfl, by decide +kernel, rfl, by decide +kernel, by decide +kernel⟩
abbrev s_days_of : Stmt := topS 21
theorem sc_days_of : FnScope ["told", "days", "rise"] ["told"] (defScope s_days_of) := ⟨rfl, rfl, rfl, by decide +kernel, rfl, by decide +kernel, by decide +kernel⟩
abbrev s__law_cell_at : Stmt := topS 23
theorem sc__law_cell_at : FnScope ["script", "k"] ["script", "k"] (defScope s__law_cell_at) := ⟨rfl, rfl, rfl, by decide +kernel, rfl, by decide +kernel, by decide +kernel⟩
abbrev s__law_bag : Stmt := topS 24
theorem sc__law_bag : FnScope ["cell", "k"] ["cell", "k"] (defScope s__law_bag) := ⟨rfl, rfl, rfl, by decide +kernel, rfl, by decide +kernel, by decide +kernel⟩
abbrev s__law_take : Stmt := topS 25
theorem sc__law_take : FnScope ["bag", "size", "found", "mixed"] ["bag", "size"] (defScope s__law_take) := ⟨rfl, rfl, rfl, by decide +kernel, rfl, by decide +kernel, by decide +kernel⟩
abbrev s__law_bent : Stmt := topS 26
theorem sc__law_bent : FnScope ["bag", "nums", "k", "j", "other", "some", "odd"] ["bag", "nums"] (defScope s__law_bent) := ⟨rfl, rfl, rfl, by decide +kernel, rfl, by decide +kernel, by decide +kernel⟩
abbrev s__law_is_mirror : Stmt := topS 27
theorem sc__law_is_mirror : FnScope ["thing", "falling", "steps", "k", "one", "step"] ["thing", "falling"] (defScope s__law_is_mirror) := ⟨rfl, rfl, rfl, by decide +kernel, rfl, by decide +kernel, by decide +kernel⟩
abbrev s__law_asked : Stmt := topS 28
theorem sc__law_asked : FnScope ["door", "thing", "told", "caught", "e", "alone"] ["door", "thing"] (defScope s__law_asked) := ⟨rfl, rfl, rfl, by decide +kernel, rfl, by decide +kernel, by decide +kernel⟩
abbrev s_law : Stmt := topS 29
theorem sc_law : FnScope ["script", "far", "door", "nums", "k", "bag", "turn", "rises", "bests_now", "falls", "thing", "kept", "due", "size", "roof", "rise"] ["script"] (defScope s_law) := ⟨rfl, rfl, rfl, by decide +kernel, rfl, by decide +kernel, by decide +kernel⟩
structure Ds (K : PySem.W.Frag) (mg : Str → Option Value) where
  is_whole : Df K mg "is_whole" s_is_whole ["thing"]
  is_days : Df K mg "is_days" s_is_days ["thing"]
  sums_of : Df K mg "sums_of" s_sums_of ["steps"]
  need_steps : Df K mg "need_steps" s_need_steps ["steps"]
  falls_of_spills : Df K mg "falls_of_spills" s_falls_of_spills ["told"]
  rises_of_bests : Df K mg "rises_of_bests" s_rises_of_bests ["told"]
  turned : Df K mg "turned" s_turned ["steps"]
  bests_of : Df K mg "bests_of" s_bests_of ["told"]
  spills_of : Df K mg "spills_of" s_spills_of ["told"]
  days_of : Df K mg "days_of" s_days_of ["told"]
  _law_cell_at : Df K mg "_law_cell_at" s__law_cell_at ["script", "k"]
  _law_bag : Df K mg "_law_bag" s__law_bag ["cell", "k"]
  _law_take : Df K mg "_law_take" s__law_take ["bag", "size"]
  _law_bent : Df K mg "_law_bent" s__law_bent ["bag", "nums"]
  _law_is_mirror : Df K mg "_law_is_mirror" s__law_is_mirror ["thing", "falling"]
  _law_asked : Df K mg "_law_asked" s__law_asked ["door", "thing"]
  law_ : Df K mg "law" s_law ["script"]
def wpL : Nat := 19 + 1
def wp (n : Nat) : Pos := [⟨wpL, 11, wpL, 21⟩, ⟨wpL, 22, wpL, 27⟩, ⟨wpL, 29, wpL, 32⟩, ⟨wpL, 11, wpL, 33⟩, ⟨wpL, 43, wpL, 53⟩, ⟨wpL, 54, wpL, 59⟩, ⟨wpL, 61, wpL, 65⟩, ⟨wpL, 43, wpL, 66⟩, ⟨wpL, 39, wpL, 66⟩, ⟨wpL, 11, wpL, 67⟩, ⟨wpL, 4, wpL, 67⟩].getD n ⟨0, 0, 0, 0⟩

section
variable {P : Program} {w : World} {K : PySem.W.Frag} {mg : Str → Option Value} {base : Heap}
theorem plain_ty {H : Hp} {x : V} (p : Plain H x) : ∃ T : String, TyX K H x (.type T) ∧ kitB T "int" = some (isI x) ∧ kitB T "bool" = some (isB x) := by
  cases p with
  | non => exact ⟨_, .base .non, by decide +kernel, by decide +kernel⟩
  | bl b => exact ⟨_, .base (.bl b), (by show _ = some true; decide +kernel), (by show _ = some true; decide +kernel)⟩
  | int i => exact ⟨_, .base (.int i), (by show _ = some true; decide +kernel), (by show _ = some false; decide +kernel)⟩
  | str z => exact ⟨_, .base (.str z), (by show _ = some false; decide +kernel), (by show _ = some false; decide +kernel)⟩
  | lst e => exact ⟨_, .base (.lst e), (by show _ = some false; decide +kernel), (by show _ = some false; decide +kernel)⟩
  | frz e => exact ⟨_, .base (.frz e), (by show _ = some false; decide +kernel), (by show _ = some false; decide +kernel)⟩
  | tup e => exact ⟨_, .base (.tup e), (by show _ = some false; decide +kernel), (by show _ = some false; decide +kernel)⟩
  | dK e => exact ⟨_, .base (.dK e), (by show _ = some false; decide +kernel), (by show _ = some false; decide +kernel)⟩
def spWhole : Sp := fun vs H Q _ => ∃ x : V, vs = [x] ∧ Plain H x ∧ Q (.bl (isW x)) H
theorem okh_whole (d : Df K mg "is_whole" s_is_whole ["thing"]) (B : Blt mg) : FnOk P w K mg base CX0 1 d.f d.fd ["thing"] spWhole := by
  refine d.F.ok sc_is_whole (fun vs H Q E h => ?_) (fun cdv A outer s H vs Q E hr h => ?_)
  · obtain ⟨x, rfl, _⟩ := h
    rfl
  · obtain ⟨x, rfl, pl, q⟩ := h
    obtain ⟨T, ty, ki, kb⟩ := plain_ty (K := K) pl
    refine ⟨_, (pss_one (ps_ret (pe_and (pe_isi B (pv 0) (pe_ty "int" B.int)) (pe_one (pe_not (pe_isi B (pv 0) (pe_ty "bool" B.bool))))))), ?_⟩
    refine ⟨_, rfl, x, .ty "int", _, _, isI x, rfl, .ty _, ty, kit_ty ki, _, rfl, ?_⟩
    cases hi : isI x with
    | false =>
      refine iteF ?_
      rw [isW_eq, hi] at q
      exact q
    | true =>
      refine iteT ?_
      refine ⟨_, rfl, x, .ty "bool", _, _, isB x, rfl, .ty _, ty, kit_ty kb, _, rfl, ?_⟩
      rw [isW_eq, hi] at q
      exact q
def isAmt : V → Bool
  | .int i => decide (0 ≤ i)
  | _ => false
def spAmt : Sp := fun vs H Q _ => ∃ x : V, vs = [x] ∧ Plain H x ∧ Q (.bl (isAmt x)) H
/-- is_days, of a list of plain things, or of a plain thing that is none -/
def spDays (K : PySem.W.Frag) (T : Addr) : Sp := fun vs H Q _ => ∃ x : V, vs = [x] ∧
  ((∃ (l : Addr) (ys : List V), x = .ref l ∧ Rd H l (.lst ys) ∧ (∀ y ∈ ys, Plain H y) ∧ GxR.TabG H T ∧ ∀ H2, Ex [] H H2 → GxR.TabG H2 T → Q (.bl (ys.all isW)) H2) ∨
   (∃ N : String, TyX K H x (.type N) ∧ kitB N "list" = some false ∧ Q (.bl false) H))
theorem rd_ty {K : PySem.W.Frag} {H : Hp} {l : Addr} {ys : List V} (h : Rd H l (.lst ys)) : TyX K H (.ref l) (.type "list") := by
  rcases h with h | ⟨o, h⟩
  · exact .base (.lst h)
  · exact .base (.frz h)
theorem okh_days {f cd T : Addr} {kV doc pm ct oc : Value} {an od : Option Addr} {osl : Array (Option Value)} (d_is_whole : Df K mg "is_whole" s_is_whole ["thing"]) (B : Blt mg) (TB : GxR.TabB base mg cd T)
    (lk : K.lookup f = some ⟨oc, od, .func (PySem.W.fnOf "is_days" "is_days" (defArgs s_is_days) (defBody s_is_days) (defScope s_is_days) .none kV doc pm an (.ref cd) ct), osl⟩) (hc : PySem.W.codeIn K (.ref cd) "is_days" = true) :
    FnOk P w K mg base CX0 2 f (PySem.W.fnOf "is_days" "is_days" (defArgs s_is_days) (defBody s_is_days) (defScope s_is_days) .none kV doc pm an (.ref cd) ct) ["thing"] (spDays K T) := by
  refine fn_of lk hc sc_is_days (fun vs H Q E h => ?_) (fun A outer s H vs Q E hr h => ?_)
  · obtain ⟨x, rfl, _⟩ := h
    rfl
  · obtain ⟨x, rfl, h⟩ := h
    obtain ⟨oc1, od1, kV1, doc1, pm1, an1, cdv1, ct1, osl1, e1, lk1, hc1⟩ := d_is_whole.F.ex
    have hb1 : ∀ u : Value, bindArgs (PySem.W.fnOf "is_whole" "is_whole" (defArgs s_is_whole) (wholeBody wp) wholeScope .none kV1 doc1 pm1 an1 cdv1 ct1) ⟨[u], []⟩ = pure [(Str.ofString "thing", u)] := fun _ => rfl
    have lk2 : K.lookup d_is_whole.f = some ⟨oc1, od1, .func (PySem.W.fnOf "is_whole" "is_whole" (defArgs s_is_whole) (wholeBody wp) wholeScope .none kV1 doc1 pm1 an1 cdv1 ct1), osl1⟩ := by
      rw [e1] at lk1
      exact lk1
    refine ⟨_, PSs.nox (pss_one (ps_ret (pe_and (pe_isi B (pv 0) (pe_ty "list" B.list)) (pe_one (pe_allG (k := 1) hr (by rfl) B.all (by decide +kernel) TB rfl
      ⟨rfl, rfl, (by decide +kernel), rfl, rfl, (fun y hy e => absurd e (by revert y; decide +kernel))⟩ (pv 0)
      (elt_whole (k := 1) lk2 hc1 hb1 B.isinstance B.int B.bool d_is_whole.m d_is_whole.F.kp rfl rfl rfl (by decide) hr) (fun _ => rfl)))))), ?_⟩
    rcases h with ⟨l, ys, rfl, hl, hp, ht, q⟩ | ⟨N, ty, kl, q⟩
    · refine ⟨_, rfl, _, .ty "list", _, _, true, rfl, .ty _, rd_ty hl, kit_ty (by decide +kernel), _, rfl, iteT ?_⟩
      exact ⟨_, rfl, l, ys, rfl, rd_seq hl, hp, ht, fun H2 tb => q H2 (Ex.tabbed ht tb) tb.1⟩
    · exact ⟨_, rfl, _, .ty "list", _, _, false, rfl, .ty _, ty, kit_ty kl, _, rfl, iteF q⟩
end
/-! ### whole numbers, rows of days, by data -/
/-- where is_days is not reached -/
def GdT (_ : Program) (_ : World) (_ : Heap) : Prop := True
theorem il_at {ns : List Int} {i : Nat} {x : PyData} (h : (ns.map PyData.int)[i]? = some x) : ∃ z : Int, x = .int z ∧ ns[i]? = some z := by
  rw [List.getElem?_map] at h
  cases e : ns[i]? with
  | none => rw [e] at h; cases h
  | some z => rw [e] at h; exact ⟨z, (Option.some.inj h).symm, rfl⟩
theorem inC_atD {cap : Int} (c : Int) (ds : List Int) : atI ((inC cap c ds).map PyData.int) (-1) = some (.int (endC cap c ds)) := by
  obtain ⟨xs, e, _⟩ := inC_last (cap := cap) c ds
  rw [e, List.map_append]
  exact atI_last _ _
theorem inC_snoc {cap : Int} (c : Int) (ds : List Int) (d : Int) : inC cap c (ds ++ [d]) = inC cap c ds ++ [stepC cap (endC cap c ds) d] := by
  unfold inC
  rw [runC_app]
  rfl
theorem runS_snoc {cap : Int} (c : Int) (ds : List Int) (d : Int) : runS cap c (ds ++ [d]) = runS cap c ds ++ [stepS cap (endC cap c ds) d] := by
  rw [runS_app]
  rfl
theorem runL_snoc {cap : Int} (c : Int) (ds : List Int) (d : Int) : runL cap c (ds ++ [d]) = runL cap c ds ++ [stepL (endC cap c ds) d] := by
  rw [runL_app]
  rfl
theorem lt_line {n : Nat} (h : n ≤ 2000000) : n < sizeLine := Nat.lt_of_le_of_lt h (by decide)
theorem le_line {n : Nat} (h : n ≤ 2000000) : n ≤ sizeLine := Nat.le_of_lt (lt_line h)
theorem stepC_eq {cap c d : Int} : min (max (c + d) 0) cap = stepC cap c d := by
  unfold stepC
  split <;> split <;> omega
theorem stepS_eq {cap c d : Int} : max (c + d - cap) 0 = stepS cap c d := by
  unfold stepS
  split <;> omega
theorem stepL_eq {c d : Int} : max (-(c + d)) 0 = stepL c d := by
  unfold stepL
  split <;> omega
def wD : PyData → Bool
  | .int _ => true
  | _ => false
def aD : PyData → Bool
  | .int i => decide (0 ≤ i)
  | _ => false
def dsD : PyData → Bool
  | .list xs => xs.all wD
  | _ => false
def cPred (p : PyData → Bool) : Fc := fun ds k => ∃ d, ds = [d] ∧ k (.bool (p d))
theorem plain_of {H : Hp} {v : V} {d : PyData} (h : Dv H v d) : Plain H v := by
  cases h with
  | non => exact .non
  | bl b => exact .bl b
  | int i => exact .int i
  | str z => exact .str z
  | lst e _ => exact .lst e
  | tup e _ => exact .tup e
  | dic e _ => exact .dK e
theorem isW_D {H : Hp} {v : V} {d : PyData} (h : Dv H v d) : isW v = wD d := by cases h <;> rfl
theorem isAmt_D {H : Hp} {v : V} {d : PyData} (h : Dv H v d) : isAmt v = aD d := by cases h <;> rfl
theorem allW_D {H : Hp} : ∀ {vs : List V} {ds : List PyData}, DvA H vs ds → vs.all isW = ds.all wD
  | _, _, .nil => rfl
  | _, _, .cons a b => by rw [List.all_cons, List.all_cons, isW_D a, allW_D b]
theorem all_ints {ns : List Int} : (ns.map PyData.int).all wD = true := List.all_eq_true.mpr fun y hy => by
  obtain ⟨n, _, rfl⟩ := List.mem_map.mp hy
  rfl
theorem all_plain {H : Hp} : ∀ {vs : List V} {ds : List PyData}, DvA H vs ds → ∀ y ∈ vs, Plain H y
  | _, _, .nil, y, hy => nomatch hy
  | _, _, .cons a b, y, hy => by
    rcases List.mem_cons.mp hy with rfl | hy
    · exact plain_of a
    · exact all_plain b y hy
theorem dv1 {H : Hp} {vs : List V} {d : PyData} (h : DvA H vs [d]) : ∃ v, vs = [v] ∧ Dv H v d := by
  cases h with
  | cons a b => cases b; exact ⟨_, rfl, a⟩
section
variable {P : Program} {w : World} {K : PySem.W.Frag} {mg : Str → Option Value} {base : Heap} {T : Addr} {Tb : List Addr}
abbrev c_is_whole : Fc := cPred wD
abbrev c_is_amount : Fc := cPred aD
abbrev c_is_days : Fc := cPred dsD
theorem whole_imp : ∀ vs H Q E, spD Tb c_is_whole vs H Q E → spWhole vs H Q E := fun vs H Q E ⟨hd, ds, k, h0, dv, t, ⟨d, e, hk⟩, q⟩ => by
  subst e
  obtain ⟨v, rfl, dw⟩ := dv1 dv
  have dH := Dv.le hide_le _ _ dw
  refine ⟨v, rfl, plain_of dH, ?_⟩
  rw [isW_D dH]
  exact q _ _ H (Ex.refl _) (.bl _) hk
theorem amount_imp : ∀ vs H Q E, spD Tb c_is_amount vs H Q E → spAmt vs H Q E := fun vs H Q E ⟨hd, ds, k, h0, dv, t, ⟨d, e, hk⟩, q⟩ => by
  subst e
  obtain ⟨v, rfl, dw⟩ := dv1 dv
  have dH := Dv.le hide_le _ _ dw
  refine ⟨v, rfl, plain_of dH, ?_⟩
  rw [isAmt_D dH]
  exact q _ _ H (Ex.refl _) (.bl _) hk
theorem days_imp (hT : T ∈ Tb) : ∀ vs H Q E, spD Tb c_is_days vs H Q E → spDays K T vs H Q E := fun vs H Q E ⟨hd, ds, k, h0, dv, t, ⟨d, e, hk⟩, q⟩ => by
  subst e
  obtain ⟨v, rfl, dw⟩ := dv1 dv
  have dH := Dv.le hide_le _ _ dw
  refine ⟨v, rfl, ?_⟩
  cases dH with
  | @lst a vs xs e dx =>
    refine .inl ⟨a, vs, rfl, .inl e, all_plain dx, t T hT, fun H2 ex t2 => ?_⟩
    rw [allW_D dx]
    exact q _ _ H2 ex (.bl _) hk
  | non => exact .inr ⟨_, .base .non, (by decide +kernel), q _ _ H (Ex.refl _) (.bl false) hk⟩
  | bl b => exact .inr ⟨_, .base (.bl b), (by decide +kernel), q _ _ H (Ex.refl _) (.bl false) hk⟩
  | int i => exact .inr ⟨_, .base (.int i), (by decide +kernel), q _ _ H (Ex.refl _) (.bl false) hk⟩
  | str z => exact .inr ⟨_, .base (.str z), (by decide +kernel), q _ _ H (Ex.refl _) (.bl false) hk⟩
  | tup e _ => exact .inr ⟨_, .base (.tup e), (by decide +kernel), q _ _ H (Ex.refl _) (.bl false) hk⟩
  | dic e _ => exact .inr ⟨_, .base (.dK e), (by decide +kernel), q _ _ H (Ex.refl _) (.bl false) hk⟩
variable (D : Ds K mg) (B : Blt mg) (GD : FnOk P w K mg base CX0 2 D.is_days.f D.is_days.fd ["thing"] (spDays K T)) (hT : T ∈ Tb)
include D B GD hT
theorem ok_is_whole : FnOk P w K mg base CX0 1 D.is_whole.f D.is_whole.fd ["thing"] (spD Tb c_is_whole) := (okh_whole D.is_whole B).imp whole_imp
theorem ok_is_days : FnOk P w K mg base CX0 2 D.is_days.f D.is_days.fd ["thing"] (spD Tb c_is_days) := GD.imp (days_imp hT)
abbrev c_need_days : Fc := fun ds k => ∃ xs, ds = [.list xs] ∧ xs.all wD = true ∧ k .none
abbrev c_need_cap : Fc := fun ds k => ∃ c : Int, ds = [.int c] ∧ 0 ≤ c ∧ k .none
abbrev c_need_start : Fc := fun ds k => ∃ s c : Int, ds = [.int s, .int c] ∧ 0 ≤ s ∧ s ≤ c ∧ k .none
abbrev c_day_done : Fc := fun ds k => ∃ c d cap : Int, ds = [.int c, .int d, .int cap] ∧ k (.tuple [.int (stepC cap c d), .int (stepS cap c d), .int (stepL c d)])
abbrev c_need_tank : Fc := fun ds k => ∃ (ns : List Int) (cap start : Int), ds = [il ns, .int cap, .int start] ∧ 0 ≤ start ∧ start ≤ cap ∧ k .none
abbrev c_run : Fc := fun ds k => ∃ (ns : List Int) (cap start : Int), ds = [il ns, .int cap, .int start] ∧ 0 ≤ start ∧ start ≤ cap ∧ ns.length ≤ 1000000 ∧ k (.tuple [il (inC cap start ns), il (runS cap start ns), il (runL cap start ns)])
abbrev c_totals : Fc := fun ds k => ∃ (ns : List Int) (cap start : Int), ds = [il ns, .int cap, .int start] ∧ 0 ≤ start ∧ start ≤ cap ∧ ns.length ≤ 1000000 ∧ k (.tuple [.int (endC cap start ns), .int (runS cap start ns).sum, .int (runL cap start ns).sum])
end
end Sp
end

section
set_option maxHeartbeats 4000000
namespace Sp
open PySem PySem.Spec PyProof.Rows L2
local macro_rules | `(tactic| decreasing_trivial_pre_omega) => `(tactic| ((try simp only [vSeq, vSeqJ, vAsg, vTell, bName, vVar, vC, vOp, vTwo, vOne, vUn, lk, vTOp, wB, vTrue, dTrue, vNot, vAnd, vOr, vAndV, vOrV, vNotV, vB, vIf, vNil, vCons, dsOf, vTup, vLst, vDs, Option.map_some, dI, dSub, dAdd, dMul, dMod, dDiv, dPow, dLt, dLe, dGt, dGe, dEq, dNe, dNeg, dIx, vNoPart, vPart, wI, vSl, dSl, dRev, lks, vCB, dLen, dAbs, dMax2, dMin2, dSum, dMax1, dMin1, dInt1, dListOf, dTupleOf, dSorted, dSortedR, vFn, vFnC, bNil, bCons, bTup, vFrz, vIfS, vRet, vDrop, vOwn, vOwnL, vPopAt, dAll, dAny, vPar, vAug, vApp, vPop, vRevM, vExt, vPut, iL, iT, iR1, iR2, iEn, iZp, vFor, vWhile, vLc, sz, vYes, vD, vChain, vTChain, vIsi, vAll, isInt, isBool, isList, isTuple, dIsN, dNotN, vTFour, vIff, vAllT, isLT, dIn, dNotin, dIs, dIsNot, vSlA, dSlA, vAugS, vTail, vKw, vCount, vPar3, List.mem_cons, List.not_mem_nil, List.length_cons, List.length_nil, List.getElem?_cons_zero, List.getElem?_cons_succ, List.getElem?_nil, List.set_cons_zero, List.set_cons_succ, unset, back, isOwn, env0, envC, List.map_cons, List.map_nil, List.cons_append, List.nil_append, List.replicate_succ, List.replicate_zero, Nat.reduceAdd, Nat.reduceSub, Nat.reduceLT, Nat.reduceLeDiff, Int.reduceLE, Int.reduceLT, Int.reduceNeg, Int.reduceToNat, Int.reducePow, Int.reduceAdd, Int.reduceSub, Int.reduceMul, Int.cast_ofNat_Int, Int.natCast_zero, Int.reduceEq, not_true_eq_false, not_false_eq_true, false_and, and_false, false_or, or_false, true_or, or_true, Nat.zero_add, Nat.zero_le, true_and, and_true, if_true, if_false, Bool.false_eq_true, Bool.not_true, Bool.not_false, List.all_cons, List.all_nil, Bool.and_true, Bool.true_and, decide_true, Option.getD_some, Option.getD_none, reduceCtorEq, decide_eq_true_eq, Bool.not_eq_true', decide_eq_false_iff_not]); (repeat (refine go ?_; try simp only [vSeq, vSeqJ, vAsg, vTell, bName, vVar, vC, vOp, vTwo, vOne, vUn, lk, vTOp, wB, vTrue, dTrue, vNot, vAnd, vOr, vAndV, vOrV, vNotV, vB, vIf, vNil, vCons, dsOf, vTup, vLst, vDs, Option.map_some, dI, dSub, dAdd, dMul, dMod, dDiv, dPow, dLt, dLe, dGt, dGe, dEq, dNe, dNeg, dIx, vNoPart, vPart, wI, vSl, dSl, dRev, lks, vCB, dLen, dAbs, dMax2, dMin2, dSum, dMax1, dMin1, dInt1, dListOf, dTupleOf, dSorted, dSortedR, vFn, vFnC, bNil, bCons, bTup, vFrz, vIfS, vRet, vDrop, vOwn, vOwnL, vPopAt, dAll, dAny, vPar, vAug, vApp, vPop, vRevM, vExt, vPut, iL, iT, iR1, iR2, iEn, iZp, vFor, vWhile, vLc, sz, vYes, vD, vChain, vTChain, vIsi, vAll, isInt, isBool, isList, isTuple, dIsN, dNotN, vTFour, vIff, vAllT, dIn, dNotin, dIs, dIsNot, vSlA, dSlA, vAugS, vTail, vKw, vCount, vPar3, List.mem_cons, List.not_mem_nil, List.length_cons, List.length_nil, List.getElem?_cons_zero, List.getElem?_cons_succ, List.getElem?_nil, List.set_cons_zero, List.set_cons_succ, unset, back, isOwn, env0, envC, List.map_cons, List.map_nil, List.cons_append, List.nil_append, List.replicate_succ, List.replicate_zero, Nat.reduceAdd, Nat.reduceSub, Nat.reduceLT, Nat.reduceLeDiff, Int.reduceLE, Int.reduceLT, Int.reduceNeg, Int.reduceToNat, Int.reducePow, Int.reduceAdd, Int.reduceSub, Int.reduceMul, Int.cast_ofNat_Int, Int.natCast_zero, Int.reduceEq, not_true_eq_false, not_false_eq_true, false_and, and_false, false_or, or_false, true_or, or_true, Nat.zero_add, Nat.zero_le, true_and, and_true, if_true, if_false, Bool.false_eq_true, Bool.not_true, Bool.not_false, List.all_cons, List.all_nil, Bool.and_true, Bool.true_and, decide_true, Option.getD_some, Option.getD_none, reduceCtorEq, decide_eq_true_eq, Bool.not_eq_true', decide_eq_false_iff_not]))))

section
variable {P : Program} {w : World} {K : PySem.W.Frag} {mg : Str → Option Value} {base : Heap}
def spCell (K : PySem.W.Frag) : Sp := fun vs H Q _ => ∃ (l : Addr) (ns : List Int) (k : Int), vs = [.ref l, .int k] ∧ SqL K H l (ns.map V.int) ∧ 0 ≤ k ∧ ∀ c : Int, Q (.int c) H
theorem okh__law_cell_at (d : Df K mg "_law_cell_at" s__law_cell_at ["script", "k"]) (B : Blt mg) : FnOk P w K mg base CX0 1 d.f d.fd ["script", "k"] (spCell K) := by
  refine d.F.ok sc__law_cell_at (fun vs H Q E h => ?_) (fun cdv A outer s H vs Q E hr h => ?_)
  · obtain ⟨l, ns, k, rfl, _⟩ := h
    rfl
  · obtain ⟨l, ns, k, rfl, hl, h0, q⟩ := h
    refine ⟨_, (pss_cons (ps_if (pt_cmpR op_lt (pv 1) (pe_callB call_len_seq (by rfl) B.len PySem.boot_len (pa_cons (pv 0) pa_nil)) (nomark _))
        (pss_one (ps_ret (pe_ix ix_list (pv 0) (pv 1) (fun _ _ => rfl))))
        pss_nil)
      (pss_one (ps_ret pe_int))), ?_⟩
    refine ⟨_, rfl, _, rfl, l, _, rfl, .inl hl, _, _, rfl, rfl, _, rfl, ?_⟩
    refine ite2 (fun c => ?_) (fun c => ?_)
    · have c' : k < (((ns.map V.int).length : Nat) : Int) := of_decide_eq_true c
      rw [List.length_map] at c'
      obtain ⟨j, rfl⟩ : ∃ j : Nat, k = (j : Int) := ⟨k.toNat, by omega⟩
      have hj : j < ns.length := by omega
      refine ⟨_, rfl, _, rfl, l, _, j, _, rfl, rfl, hl, atI_nat (by rw [List.getElem?_map, List.getElem?_eq_getElem hj]; rfl), ?_⟩
      exact q _
    · exact q _
def spBag : Sp := fun vs H Q _ => ∃ c k : Int, vs = [.int c, .int k] ∧ 0 ≤ k ∧ k ≤ 100 ∧ ∀ p H', Ex [] H H' → H p = none → CaskAt H' p 0 → Q (.ref p) H'
theorem okh__law_bag (d : Df K mg "_law_bag" s__law_bag ["cell", "k"]) (B : Blt mg) : FnOk P w K mg base CX0 1 d.f d.fd ["cell", "k"] spBag := by
  refine d.F.ok sc__law_bag (fun vs H Q E h => ?_) (fun cdv A outer s H vs Q E hr h => ?_)
  · obtain ⟨c, k, rfl, _⟩ := h
    rfl
  · obtain ⟨c, k, rfl, h0, h1, q⟩ := h
    refine ⟨_, (pss_one (ps_ret (pe_lst (pa_cons (pe_callB (call_max2 rfl) (by rfl) B.max (by decide +kernel) (pa_cons pe_int (pa_cons (pe_op op_sub (pv 0) (pe_op op_powC pe_int pe_int)) pa_nil))) (pa_cons (pe_op op_add (pe_op op_mod (pv 0) pe_int) (pe_op op_mul pe_int (pe_op op_add (pv 1) pe_int))) (pa_cons pe_int pa_nil)))))), ?_⟩
    refine ⟨_, rfl, _, _, 1000000000000000000, rfl, rfl, ⟨by decide, by decide, by decide⟩, by decide, _, _, rfl, rfl, _, _, rfl, ?_⟩
    refine ⟨_, rfl, _, _, rfl, rfl, (by show (0 : Int) < 162259276829213363391578010288127; decide), _, rfl, _, _, rfl, rfl, _, _, rfl, rfl, .inl ⟨by decide, by decide⟩, _, _, rfl, rfl, (by show 3 ≤ sizeLine; decide), fun p hp => ?_⟩
    have m := mod_lt (a := c) (b := 162259276829213363391578010288127) (by decide)
    exact q p _ (Ex.new hp) hp ⟨_, _, _, upd_same, by split <;> omega, by omega, by omega, by decide, by decide⟩
def spTake : Sp := fun vs H Q _ => ∃ (c : Addr) (M wide : Int), vs = [.ref c, .int wide] ∧ CaskAt H c M ∧ M ≤ 1000000 ∧ 0 < wide ∧ wide < 100000000000000000000 ∧ ∀ (r : Int) H', 0 ≤ r → r < wide → Ex [c] H H' → CaskAt H' c (M + 1) → Q (.int r) H'
theorem okh__law_take (d : Df K mg "_law_take" s__law_take ["bag", "size"]) (B : Blt mg) : FnOk P w K mg base CX0 1 d.f d.fd ["bag", "size"] spTake := by
  refine d.F.ok sc__law_take (fun vs H Q E h => ?_) (fun cdv A outer s H vs Q E hr h => ?_)
  · obtain ⟨c, M, wide, rfl, _⟩ := h
    rfl
  · obtain ⟨c, M, wide, rfl, ⟨a, b, n, e, ha, hb, hb2, hn, hn2⟩, hM, w0, w1, q⟩ := h
    refine ⟨_, (pss_cons (ps_if (pt_cmpR op_gt (pe_ix ix_list (pv 0) pe_int (fun _ _ => rfl)) pe_int (nomark _))
        (pss_cons (ps_set (i := 2) sc__law_take.nd rfl (Or.inl rfl) (pe_op op_mod (pe_ix ix_list (pv 0) pe_int (fun _ _ => rfl)) (pv 1)))
          (pss_cons (ps_asg (pe_op op_fdivW (pe_ix ix_list (pv 0) pe_int (fun _ _ => rfl)) (pv 1)) (pg_sub (pv 0) pe_int set_list))
          (pss_one (ps_ret (pv 2)))))
        pss_nil)
      (pss_cons (ps_asg (pe_op op_add (pe_ix ix_list (pv 0) pe_int (fun _ _ => rfl)) pe_int) (pg_sub (pv 0) pe_int set_list))
      (pss_cons (ps_set (i := 3) sc__law_take.nd rfl (Or.inl rfl) (pe_op op_mod (pe_op op_powW (pe_op op_add (pe_ix ix_list (pv 0) pe_int (fun _ _ => rfl)) (pe_op op_mul pe_int (pe_ix ix_list (pv 0) pe_int (fun _ _ => rfl)))) pe_int) pe_int))
      (pss_cons (ps_set (i := 3) sc__law_take.nd rfl (Or.inl rfl) (pe_op op_mod (pe_op op_powW (pe_op op_add (pv 3) (pe_op op_mul pe_int (pe_ix ix_list (pv 0) pe_int (fun _ _ => rfl)))) pe_int) pe_int))
      (pss_one (ps_ret (pe_op op_mod (pe_op op_fdivW (pv 3) pe_int) (pv 1)))))))), ?_⟩
    have m := mod_lt (a := a) (b := wide) w0
    refine ⟨_, rfl, c, _, _, _, rfl, rfl, sq e, atI_nat (j := 0) rfl, _, _, rfl, rfl, _, rfl, ?_⟩
    refine ite2 (fun k => ?_) (fun k => ?_)
    · refine ⟨_, rfl, c, _, _, _, rfl, rfl, sq e, atI_nat (j := 0) rfl, _, rfl, _, _, rfl, rfl, w0, ?_⟩
      refine ⟨_, rfl, c, _, _, _, rfl, rfl, sq e, atI_nat (j := 0) rfl, _, rfl, _, _, rfl, rfl, divW w0 (by omega), _, rfl, c, _, _, 0, rfl, rfl, e, rfl, ?_⟩
      refine ⟨_, rfl, q _ _ m.1 m.2 (Ex.set e (fun _ z => nomatch z) (by simp)) ⟨_, b, n, upd_same, Int.ediv_nonneg ha (by omega), hb, hb2, hn, by omega⟩⟩
    · refine ⟨_, rfl, c, _, _, _, rfl, rfl, sq e, atI_nat (j := 2) rfl, _, _, rfl, rfl, _, rfl, c, _, _, 2, rfl, rfl, e, rfl, ?_⟩
      have e2 : upd H c (.lst ([V.int a, .int b, .int n].set 2 (.int (n + 1)))) c = some (.lst [V.int a, .int b, .int (n + 1)]) := upd_same
      refine ⟨_, rfl, c, _, _, _, rfl, rfl, sq e2, atI_nat (j := 1) rfl, _, rfl, c, _, _, _, rfl, rfl, sq e2, atI_nat (j := 2) rfl, _, _, rfl, rfl, .inl ⟨by decide, by decide⟩, _, _, rfl, rfl, ?_⟩
      refine ⟨_, _, rfl, rfl, powW (by omega) (by omega), _, _, rfl, rfl, (by show (0 : Int) < 162259276829213363391578010288127; decide), ?_⟩
      have m1 := mod_lt (a := (b + 1299763 * (n + 1)) ^ (3 : Int).toNat) (b := 162259276829213363391578010288127) (by decide)
      refine ⟨_, rfl, _, rfl, c, _, _, _, rfl, rfl, sq e2, atI_nat (j := 2) rfl, _, _, rfl, rfl, .inl ⟨by decide, by decide⟩, _, _, rfl, rfl, ?_⟩
      refine ⟨_, _, rfl, rfl, powW5 (by omega) (by omega), _, _, rfl, rfl, (by show (0 : Int) < 618970019642690137449562111; decide), ?_⟩
      refine ⟨_, rfl, _, _, rfl, rfl, divW (by decide) (by decide), _, rfl, _, _, rfl, rfl, w0, ?_⟩
      exact q _ _ (mod_lt w0).1 (mod_lt w0).2 (Ex.set e (fun _ z => nomatch z) (by simp)) ⟨a, b, n + 1, e2, ha, hb, hb2, by omega, by omega⟩
end
end Sp
end

section
set_option maxHeartbeats 4000000
namespace Sp
open PySem PySem.Spec PyProof.Rows L2
local macro_rules | `(tactic| decreasing_trivial_pre_omega) => `(tactic| ((try simp only [vSeq, vSeqJ, vAsg, vTell, bName, vVar, vC, vOp, vTwo, vOne, vUn, lk, vTOp, wB, vTrue, dTrue, vNot, vAnd, vOr, vAndV, vOrV, vNotV, vB, vIf, vNil, vCons, dsOf, vTup, vLst, vDs, Option.map_some, dI, dSub, dAdd, dMul, dMod, dDiv, dPow, dLt, dLe, dGt, dGe, dEq, dNe, dNeg, dIx, vNoPart, vPart, wI, vSl, dSl, dRev, lks, vCB, dLen, dAbs, dMax2, dMin2, dSum, dMax1, dMin1, dInt1, dListOf, dTupleOf, dSorted, dSortedR, vFn, vFnC, bNil, bCons, bTup, vFrz, vIfS, vRet, vDrop, vOwn, vOwnL, vPopAt, dAll, dAny, vPar, vAug, vApp, vPop, vRevM, vExt, vPut, iL, iT, iR1, iR2, iEn, iZp, vFor, vWhile, vLc, sz, vYes, vD, vChain, vTChain, vIsi, vAll, isInt, isBool, isList, isTuple, dIsN, dNotN, vTFour, vIff, vAllT, isLT, dIn, dNotin, dIs, dIsNot, vSlA, dSlA, vAugS, vTail, vKw, vCount, vPar3, List.mem_cons, List.not_mem_nil, List.length_cons, List.length_nil, List.getElem?_cons_zero, List.getElem?_cons_succ, List.getElem?_nil, List.set_cons_zero, List.set_cons_succ, unset, back, isOwn, env0, envC, List.map_cons, List.map_nil, List.cons_append, List.nil_append, List.replicate_succ, List.replicate_zero, Nat.reduceAdd, Nat.reduceSub, Nat.reduceLT, Nat.reduceLeDiff, Int.reduceLE, Int.reduceLT, Int.reduceNeg, Int.reduceToNat, Int.reducePow, Int.reduceAdd, Int.reduceSub, Int.reduceMul, Int.cast_ofNat_Int, Int.natCast_zero, Int.reduceEq, not_true_eq_false, not_false_eq_true, false_and, and_false, false_or, or_false, true_or, or_true, Nat.zero_add, Nat.zero_le, true_and, and_true, if_true, if_false, Bool.false_eq_true, Bool.not_true, Bool.not_false, List.all_cons, List.all_nil, Bool.and_true, Bool.true_and, decide_true, Option.getD_some, Option.getD_none, reduceCtorEq, decide_eq_true_eq, Bool.not_eq_true', decide_eq_false_iff_not]); (repeat (refine go ?_; try simp only [vSeq, vSeqJ, vAsg, vTell, bName, vVar, vC, vOp, vTwo, vOne, vUn, lk, vTOp, wB, vTrue, dTrue, vNot, vAnd, vOr, vAndV, vOrV, vNotV, vB, vIf, vNil, vCons, dsOf, vTup, vLst, vDs, Option.map_some, dI, dSub, dAdd, dMul, dMod, dDiv, dPow, dLt, dLe, dGt, dGe, dEq, dNe, dNeg, dIx, vNoPart, vPart, wI, vSl, dSl, dRev, lks, vCB, dLen, dAbs, dMax2, dMin2, dSum, dMax1, dMin1, dInt1, dListOf, dTupleOf, dSorted, dSortedR, vFn, vFnC, bNil, bCons, bTup, vFrz, vIfS, vRet, vDrop, vOwn, vOwnL, vPopAt, dAll, dAny, vPar, vAug, vApp, vPop, vRevM, vExt, vPut, iL, iT, iR1, iR2, iEn, iZp, vFor, vWhile, vLc, sz, vYes, vD, vChain, vTChain, vIsi, vAll, isInt, isBool, isList, isTuple, dIsN, dNotN, vTFour, vIff, vAllT, dIn, dNotin, dIs, dIsNot, vSlA, dSlA, vAugS, vTail, vKw, vCount, vPar3, List.mem_cons, List.not_mem_nil, List.length_cons, List.length_nil, List.getElem?_cons_zero, List.getElem?_cons_succ, List.getElem?_nil, List.set_cons_zero, List.set_cons_succ, unset, back, isOwn, env0, envC, List.map_cons, List.map_nil, List.cons_append, List.nil_append, List.replicate_succ, List.replicate_zero, Nat.reduceAdd, Nat.reduceSub, Nat.reduceLT, Nat.reduceLeDiff, Int.reduceLE, Int.reduceLT, Int.reduceNeg, Int.reduceToNat, Int.reducePow, Int.reduceAdd, Int.reduceSub, Int.reduceMul, Int.cast_ofNat_Int, Int.natCast_zero, Int.reduceEq, not_true_eq_false, not_false_eq_true, false_and, and_false, false_or, or_false, true_or, or_true, Nat.zero_add, Nat.zero_le, true_and, and_true, if_true, if_false, Bool.false_eq_true, Bool.not_true, Bool.not_false, List.all_cons, List.all_nil, Bool.and_true, Bool.true_and, decide_true, Option.getD_some, Option.getD_none, reduceCtorEq, decide_eq_true_eq, Bool.not_eq_true', decide_eq_false_iff_not]))))

theorem atI_mem {xs : List PyData} {i : Int} (h0 : 0 ≤ i) (h1 : i < (xs.length : Int)) : ∃ z, z ∈ xs ∧ atI xs i = some z := by
  obtain ⟨j, rfl⟩ : ∃ j : Nat, i = (j : Int) := ⟨i.toNat, by omega⟩
  have hj : j < xs.length := by omega
  exact ⟨xs[j], List.getElem_mem hj, atI_nat (List.getElem?_eq_getElem hj)⟩
theorem atI_int {xs : List Int} {i : Int} (h0 : 0 ≤ i) (h1 : i < (xs.length : Int)) : ∃ z, z ∈ xs ∧ atI (xs.map PyData.int) i = some (.int z) := by
  obtain ⟨j, rfl⟩ : ∃ j : Nat, i = (j : Int) := ⟨i.toNat, by omega⟩
  have hj : j < xs.length := by omega
  exact ⟨xs[j], List.getElem_mem hj, atI_nat (by rw [List.getElem?_map, List.getElem?_eq_getElem hj]; rfl)⟩
theorem at_2 {a b : Int} {i : Int} (h0 : 0 ≤ i) (h1 : i < 2) : ∃ z, (z = a ∨ z = b) ∧ atI [PyData.int a, .int b] i = some (.int z) := by
  obtain ⟨z, hz, e⟩ := atI_int (xs := [a, b]) h0 (by show i < (2 : Int); exact h1)
  exact ⟨z, by simpa using hz, e⟩
theorem at_3 {a b c : Int} {i : Int} (h0 : 0 ≤ i) (h1 : i < 3) : ∃ z, (z = a ∨ z = b ∨ z = c) ∧ atI [PyData.int a, .int b, .int c] i = some (.int z) := by
  obtain ⟨z, hz, e⟩ := atI_int (xs := [a, b, c]) h0 (by show i < (3 : Int); exact h1)
  exact ⟨z, by simpa using hz, e⟩
theorem at_4 {a b c d : Int} {i : Int} (h0 : 0 ≤ i) (h1 : i < 4) : ∃ z, (z = a ∨ z = b ∨ z = c ∨ z = d) ∧ atI [PyData.int a, .int b, .int c, .int d] i = some (.int z) := by
  obtain ⟨z, hz, e⟩ := atI_int (xs := [a, b, c, d]) h0 (by show i < (4 : Int); exact h1)
  exact ⟨z, by simpa using hz, e⟩
abbrev c__law_take : FcC := fun M ds k => ∃ wide : Int, ds = [.int wide] ∧ M ≤ 1000000 ∧ 0 < wide ∧ wide < 100000000000000000000 ∧ ∀ r, 0 ≤ r → r < wide → k (.int r) (M + 1)
theorem take_imp {Tb : List Addr} : ∀ vs H Q E, spC Tb c__law_take vs H Q E → spTake vs H Q E := fun vs H Q E ⟨hd, c, ws, M, ds, k, e, h0, hc, kc, dv, t, ⟨wide, e2, hM, w0, w1, hk⟩, q⟩ => by
  subst e e2
  obtain ⟨v, rfl, dw⟩ := dv1 dv
  cases dw
  exact ⟨c, M, wide, rfl, kc, hM, w0, w1, fun r H' r0 r1 ex kc' => q _ (.int r) _ H' ex kc' (.int r) (hk r r0 r1)⟩
section
variable {P : Program} {w : World} {K : PySem.W.Frag} {mg : Str → Option Value} {base : Heap} {T : Addr} {Tb : List Addr} (D : Ds K mg) (B : Blt mg) (GD : FnOk P w K mg base CX0 2 D.is_days.f D.is_days.fd ["thing"] (spDays K T)) (hT : T ∈ Tb)
include D B GD hT
theorem ok__law_take : FnOk P w K mg base CX0 1 D._law_take.f D._law_take.fd ["bag", "size"] (spC Tb c__law_take) := (okh__law_take D._law_take B).imp take_imp
abbrev c__law_row : FcC := fun M ds k => ∃ long : Int, ds = [.int long] ∧ M ≤ 900000 ∧ 0 ≤ long ∧ long ≤ 1000 ∧ ∀ (ns : List Int) M', M' ≤ M + 4 + 2 * long → (ns.length : Int) = long → (∀ d ∈ ns, -1000000000010 < d ∧ d < 1000000000010) → k (il ns) M'
end
end Sp
end

section
set_option maxHeartbeats 2000000
/-! Refusals: X() made, a try whose caught exception stays known behind it, isinstance of what is known. -/
namespace Sp
open PySem PySem.Spec PyProof.Rows L2
/-- an exception of the class at D, its dict d, as something that is known of its address -/
def ExV (D : Addr) (d : Option Addr) (a : Addr) : HO := .ext fun h => ∃ oe : Obj, h.get? a = some oe ∧ Zc (.ref D) d oe ∧ ∃ vs, oe.data = .fields vs
section
variable {X : Cx} {pins : List (Addr × Obj)} {σ : L2.St} {H : Hp} {s : Shared}
/-- an untracked object of ours, newer than the entry, is tracked from here on -/
theorem known {D a : Addr} {d : Option Addr} {oe : Obj} {vs : Array Value} (I : Inv X pins σ H s) (e : s.heap.get? a = some oe) (z : Zc (.ref D) d oe) (f : oe.data = .fields vs) (na : H a = none) (new : X.s_0.heap.get? a = none) (nL : a ≠ X.env.locals)
    (np : ∀ p ∈ X.pn ++ pins, p.1 ≠ a) : Inv X pins σ (upd H a (ExV D d a)) s := by
  have away : ∀ {b : Addr}, b ≠ a → upd H a (ExV D d a) b = H b := fun h => upd_ne h
  have ne : ∀ {b : Addr} {o : HO}, H b = some o → b ≠ a := fun h => ne_of_none h na
  have nc : ∀ x c, X.env.cells.lookup x = some c → c ≠ a := fun x c h q => by
    obtain ⟨v, o, ho, hc⟩ := I.cell x c h
    rw [q, e] at ho
    cases ho
    rw [f] at hc
    cases hc
  refine ⟨I.ok, I.os, I.bare, ⟨I.base.keep, I.base.slot, fun b o h1 h2 h3 => ?_, I.base.there, fun b xs h => ?_, fun b o u h => ?_, fun b ps h => ?_⟩, I.loc, I.cell, ?_, fun x c h => ?_, fun p hp => ?_, fun b u h => ?_, I.len⟩
  · rw [away fun q => by rw [q, new] at h1; cases h1]
    exact I.base.free b o h1 h2 h3
  · have q := I.base.tups b xs h
    rw [away (ne q)]
    exact q
  · have q := I.base.frzs b o u h
    rw [away (ne q)]
    exact q
  · obtain ⟨m, q⟩ := I.base.tbls b ps h
    exact ⟨m, by rw [away (ne q)]; exact q⟩
  · rw [away nL.symm]
    exact I.free
  · rw [away (nc x c h)]
    exact I.freeC x c h
  · obtain ⟨q1, q2, q3⟩ := I.pin p hp
    exact ⟨q1, by rw [away (np p hp)]; exact q2, q3⟩
  · by_cases hb : b = a
    · subst hb
      rw [upd_same] at h
      cases h
      exact ⟨⟨oe, e, z, vs, f⟩, ⟨oe, e⟩, fun _ _ ⟨o, v, q⟩ k => ⟨o, k o v, q⟩⟩
    · rw [away hb] at h
      exact (I.hok b u h).stay (fun _ _ _ q => q) (fun c q => by rw [away (ne q)]; exact q) fun c xs q => by rw [away (ne q)]; exact q
/-- X(), an own exception class without own __init__ -/
theorem pmk0 {C : Addr} {bmB : List Value} {B newId initId : String} {x : Str} {p pos : Pos} (F : ExcBaseFacts B newId initId bmB) (q : PySem.W.excIn X.K C bmB newId = true) (gC : X.mg x = some (.ref C)) (kC : PySem.W.keepIn X.K (.ref C) = true)
    (r : Raises X (.ref C)) (hg : Gl X x) (hdb : (x == ("__debug__" : Str)) = false := by decide) : PMk X (.Call (.Name x p) [] [] pos) (fun _ H Q => Q (.ref C) none H) := by
  intro pins s σ H Q I h
  obtain ⟨bm, N, nm, qn, bs, hdct, sn, sub, ab, col, dd, k0, k1, k2, k3, k5, mN, c1, c2, c3, T⟩ := exc_obj I.kIn q
  refine wpAny_Call_Name_kw (ld_glob I hg gC ?_ hdb)
  exact PySem.W.callWith_K0 I.kIn kC (wpAny_call_exc_subT F T c1 c2 c3 (fun h' e made => mk_of I made r h (I.hok.gone made.new)) (Nat.zero_le _))
/-- into a suite's context, and out of it -/
theorem inSuite (I : Inv X pins σ H s) (a : Addr) : Inv (X.suite a (X.pn ++ pins)) [] σ H s :=
  ⟨I.ok.suite _ _, I.os, I.bare, I.base, I.loc, I.cell, I.free, I.freeC, fun p hp => I.pin p (by rw [List.append_nil] at hp; exact hp), I.hok, I.len⟩
theorem offSuite {a : Addr} (ok : X.Ok) (I : Inv (X.suite a (X.pn ++ pins)) [] σ H s) : Inv X pins σ H s :=
  ⟨ok, I.os, I.bare, I.base, I.loc, I.cell, I.free, I.freeC, fun p hp => I.pin p (by rw [List.append_nil]; exact hp), I.hok, I.len⟩
end
/-- what the clause 'except c as n' asks of an exception that the body lets out: it is caught, and known from there on (slot i is n's) -/
def wKnown (K : PySem.W.Frag) (c : Value) (i : Nat) (ts : Addr → TS) (D : Ends) : WX := fun cls d σ H =>
  ∃ C : Addr, cls = .ref C ∧ PySem.W.exmOne K cls c = some true ∧ ∀ a, H a = none →
    ts a { nx := fun τ G => D.nx (τ.set i none) G, rt := D.rt, bk := fun τ G => D.bk (τ.set i none) G, ct := fun τ G => D.ct (τ.set i none) G } (σ.set i (some (.ref a))) (upd H a (ExV C d a))
theorem ps_try_known {X : Cx} {body suite : List Stmt} {b₀ : Stmt} {x n : Str} {npos pos pos' : Pos} {i : Nat} {c : Value} {tb : WX → TS} {ts : Addr → TS} (hs : X.stack = X.env :: X.outer) (hf : X.env.frame = some X.env.locals) (hex : X.ex = []) (hN : X.N.Nodup) (hi : X.N[i]? = some n) (hln : X.env.kindOf n = some .local)
    (hc : L2.Names X x c) (hb : ∀ (W : WX) (pn : List (Addr × Obj)) (xe : Value → Shared → Prop), Takes (X.tr pn xe) W → PSs (X.tr pn xe) body (tb W)) (hsu : ∀ (a : Addr) (pn : List (Addr × Obj)), PSs (X.suite a pn) (b₀ :: suite) (ts a)) :
    PS X (.Try body [.ExceptHandler (some (.Name x npos)) (some n) (b₀ :: suite) pos'] [] [] pos) (fun D σ H => tb (wKnown X.K c i ts D) D σ H) := by
  refine ⟨fun pins s σ H D I h => ?_⟩
  have ok := I.ok
  have fr : X.A.frames = some (X.env :: X.outer) := ok.frames.trans (congrArg some hs)
  -- the way behind a catch
  have catching : ∀ (xe : Value → Shared → Prop) (e : Value) (t : Shared), XE (X.tr (X.pn ++ pins) xe) (wKnown X.K c i ts D) e t → wpAny (model X.prog X.w) X.A (noteFrame e X.env) (fun _ t2 => wpAny (model X.prog X.w) X.A (setFlight e none) (fun _ t3 =>
      wpAny (model X.prog X.w) X.A (handleBy e X.env [.ExceptHandler (some (.Name x npos)) (some n) (b₀ :: suite) pos']) (SP X pins D) X.xe t3) X.xe t2) X.xe t := fun xe e t ⟨a, B, sI, pins', τ, G, cls, d, ee, J', nb, up, sky, na, os, ag, C, ec, em, next⟩ => by
    subst ee ec
    have J : Inv X pins τ G sI := J'.ofTry ok
    refine Sky.land Zc.steady fr hf (hs ▸ sky) fun h1 f1 u1 => ?_
    -- where a stands: not in the state without it, and no frame
    have off : a ∉ frs (X.env :: X.outer) := fun m => by
      obtain ⟨oe, vs, q1, _, q2⟩ := f1.there
      obtain ⟨_, o, q3, q4⟩ := f1.2.2.1.mem m
      rw [q1] at q3
      cases q3
      exact q4 _ q2
    have gone : sI.heap.get? a = none := by
      cases q : sI.heap.get? a with
      | none => rfl
      | some o =>
        have z := nb a o q (by show a ∉ frs X.stack; rw [hs]; exact off)
        rw [f1.2.1] at z
        cases z
    have new : X.s_0.heap.get? a = none := by
      cases q : X.s_0.heap.get? a with
      | none => rfl
      | some o =>
        obtain ⟨o', z⟩ := J.base.there a o q (by rw [hex]; exact fun z => nomatch z)
        rw [gone] at z
        cases z
    have nL : a ≠ X.env.locals := fun z => off (List.mem_filterMap.mpr ⟨X.env, List.mem_cons_self, by rw [hf, z]⟩)
    have np : ∀ p ∈ X.pn ++ pins, p.1 ≠ a := fun p hp z => by
      have q := (J.pin p hp).1
      rw [z, gone] at q
      cases q
    have at_ : ∀ {h2 : Heap}, HandSPX.FlyingZ B (X.env :: X.outer) a (Zc (.ref C) d) h2 → sI.heap.UpToSlots h2 → Inv (X.suite a (X.pn ++ pins)) [] τ (upd G a (ExV C d a)) { t with heap := h2 } := fun {h2} f2 u2 => by
      obtain ⟨oe, vs, q1, q2, q3⟩ := f2.there
      exact inSuite (known (J.landed (s' := { t with heap := h2 }) nb f2.1 u2 os ag) q1 q2 q3 na new nL np) a
    have S1 := at_ f1 (up.trans u1)
    refine wpAny_handleBy_cons (codeAny_handlers_test ?_) (fun z => nomatch z)
    have see : ∀ {Q : Value → Shared → Prop} {E : Value → Shared → Prop}, Q c { t with heap := h1 } → wpAny (model X.prog X.w) (X.A.mark (some (.ref a))) (eval (.Name x npos) X.env) Q E { t with heap := h1 } := fun {Q E} q => by
      obtain ⟨g1, g2, g3 | ⟨g3, g4, g5⟩⟩ := hc
      · exact ld_glob (X := X.suite a (X.pn ++ pins)) S1 g1 g3 q g2
      · exact ld_blt (X := X.suite a (X.pn ++ pins)) S1 g1 g3 g4 q g5 g2
    obtain ⟨oe, vs, q1, q2, q3⟩ := f1.there
    have cl : PySem.W.Looks (model X.prog X.w) h1 (typeOf (.ref a)) (.ref C) := fun A Q E u k q => wpAny_typeOf_ref (k _ _ q1) (by rw [q2.1]; exact q)
    refine see ((PySem.W.exm_one (M := model X.prog X.w) S1.kIn cl em).here ?_)
    refine codeAny_handlers_suite_as (HandSPX.lands_againZ f1 fun h2 f2 u2 => ?_)
    refine store_ok (X := X.suite a (X.pn ++ pins)) (v := .ref a) (at_ f2 ((up.trans u1).trans u2)) hN hi (.inl hln) rfl (fun t5 S5 => ?_) (.inr hln)
    refine wpAny_mono ((hsu a (X.pn ++ pins)).run [] t5 _ _ _ S5 (next a na)) (fun fl t6 hp => ?_) fun _ _ z => z.elim
    have back : ∀ {τ6 : L2.St} {G6 : Hp} {Q : Shared → Prop}, Inv (X.suite a (X.pn ++ pins)) [] τ6 G6 t6 → (∀ t7, Inv X pins (τ6.set i none) G6 t7 → Q t7) →
        wpAny (model X.prog X.w) X.A (do bindName X.env n .none; unbindBehindTheSuite X.env n pos') (fun _ t7 => Q t7) X.xe t6 := fun S6 q => gone_ok (offSuite ok S6) hN hi hln q
    cases fl with
    | next =>
      obtain ⟨τ6, G6, S6, q6⟩ := hp
      exact back S6 fun t7 J7 => ⟨_, _, J7, q6⟩
    | brk =>
      obtain ⟨τ6, G6, S6, q6⟩ := hp
      exact back S6 fun t7 J7 => ⟨_, _, J7, q6⟩
    | cont =>
      obtain ⟨τ6, G6, S6, q6⟩ := hp
      exact back S6 fun t7 J7 => ⟨_, _, J7, q6⟩
    | ret u =>
      obtain ⟨v6, τ6, G6, S6, r6, q6⟩ := hp
      exact back S6 fun t7 J7 => ⟨_, _, _, J7, r6, q6⟩
  refine wpAny_Try_except (wpAny_mono ((hb (wKnown X.K c i ts D) (X.pn ++ pins) _ fun e t z => catching _ e t z).run [] s σ H D (I.toTry _) h) (fun fl t hp => ?_) fun e t z => z)
  cases fl with
  | next =>
    obtain ⟨τ, G, J, q⟩ := hp
    exact wpAny_execs_nil ⟨τ, G, J.ofTry ok, q⟩
  | brk =>
    obtain ⟨τ, G, J, q⟩ := hp
    exact ⟨τ, G, J.ofTry ok, q⟩
  | cont =>
    obtain ⟨τ, G, J, q⟩ := hp
    exact ⟨τ, G, J.ofTry ok, q⟩
  | ret u =>
    obtain ⟨v, τ, G, J, r, q⟩ := hp
    exact ⟨v, τ, G, J.ofTry ok, r, q⟩
end Sp
end

section
set_option maxHeartbeats 1000000
/-! Refusals by data: functions that may raise, a try that catches, what is known of the caught. -/
namespace Sp
open PySem PySem.Spec PyProof.Rows L2
/-- what is to hold where an exception of the class at C is let out -/
abbrev KX := Addr → En → Prop
abbrev VFX := En → (W → En → Prop) → KX → Prop
abbrev VGX := VEnds → KX → En → Prop
def Lets (Tb : List Addr) (F : Fr) (kx : KX) (Wx : WX) : Prop := ∀ O σ H env C, Rep Tb F O σ H env → kx C env → Wx (.ref C) none σ H
def cEX (Tb : List Addr) (Wx : WX) (f : VFX) : TE := fun σ H Q => ∃ F O env k kx, Rep Tb F O σ H env ∧ f env k kx ∧ (∀ w env' v H', Rep Tb F O σ H' env' → RW F O H' v w → Gr F O H H' → k w env' → Q v H') ∧ Lets Tb F kx Wx
def cSX (Tb : List Addr) (Wx : WX) (g : VGX) : TS := fun D σ H => ∃ F O env E kx, Rep Tb F O σ H env ∧ g E kx env ∧ Cmp Tb F E D ∧ Lets Tb F kx Wx
/-- what a function that may raise promises -/
abbrev Fx := List PyData → (PyData → Prop) → (Addr → Prop) → Prop
def spX (Tb : List Addr) (f : Fx) : Sp := fun vs H Q E => ∃ (hd : Addr → Prop) (ds : List PyData) (k : PyData → Prop) (kx : Addr → Prop), (∀ a, hd a → H a ≠ none) ∧ DvA (hide hd H) vs ds ∧ (∀ T ∈ Tb, GxR.TabG H T) ∧ f ds k kx ∧
  (∀ v r H', Ex [] H H' → Dv (hide hd H') v r → k r → Q v H') ∧ ∀ C H', Ex [] H H' → kx C → E (.ref C) none H'
theorem spX_len {Tb : List Addr} {f : Fx} {vs : List V} {H : Hp} {Q : VK} {E : XK} {n : Nat} (h : spX Tb f vs H Q E) (hl : ∀ ds k kx, f ds k kx → ds.length = n) : vs.length = n := by
  obtain ⟨hd, ds, k, kx, _, d, _, hf, _⟩ := h
  rw [d.len]
  exact hl ds k kx hf
/-- where nothing is let out it is a function as any other -/
def calmF (f : Fx) : Fc := fun ds k => f ds k fun _ => False
theorem calm_ok {P : Program} {w : World} {K : PySem.W.Frag} {mg : Str → Option Value} {base : Heap} {k : Nat} {f : Addr} {fd : FuncData} {ps : List Str} {Tb : List Addr} {c : Fx} (G : FnOk P w K mg base (L2.CX P w) k f fd ps (spX Tb c)) : FnOk P w K mg base CX0 k f fd ps (spD Tb (calmF c)) := by
  have to : ∀ {vs H Q} {E : XK}, spD Tb (calmF c) vs H Q E → spX Tb c vs H Q fun _ _ _ => False := fun {vs H Q E} ⟨hd, ds, k, h0, d, t, hf, q⟩ => ⟨hd, ds, k, fun _ => False, h0, d, t, hf, q, fun _ _ _ z => z.elim⟩
  refine ⟨fun vs H Q E h => G.len vs H Q _ (to h), fun A outer s H args us vs Q E hr he hb hv h => codeAny_mono (G.run A outer s H args us vs Q _ hr he hb hv (to h)) fun r s' z => ?_⟩
  cases r with
  | ok fl => cases fl <;> exact z
  | error e =>
    obtain ⟨_, _, _, _, _, _, _, _, _, _, _, _, z⟩ := z
    exact z.elim
section
variable {X : Cx} {Tb : List Addr} {Wx : WX} {st : Stmt} {rest : List Stmt} {e : Expr} {es : List Expr} {fs : VA} {f : VFX} {g g1 g2 : VGX} {pos : Pos} {x : Str}
theorem pe_dX {k : Nat} {ps : List Str} {sp : Sp} {t : TA} {st : Stmt} {p : Pos} (d : Df X.K X.mg x st ps) (G : FnOk X.prog X.w X.K X.mg X.base (L2.CX X.prog X.w) k d.f d.fd ps sp) (tk : Takes X Wx) (hr : Room k X.A) (ha : PA X (e :: es) t) (hg : Gl X x := by rfl)
    (hdb : (x == ("__debug__" : Str)) = false := by decide) (he : starEach (e :: es) X.env = (false, eval e X.env) :: starEach es X.env := by rfl) (hpl : (backTo pos (starEach es X.env)).any (·.1) = false := by rfl) :
    PE X (.Call (.Name x p) (e :: es) [] pos) (tCallS sp (WE Wx) t) := pe_callS G hr hg d.m d.F.kp d.b (fun σ => passAt tk σ) ha hdb he hpl
def vFnX (f : Fx) (fs : VA) : VFX := fun env k kx => fs env fun ws e1 => vDs (fun ds => f ds (fun r => k (.d r) e1) fun C => kx C e1) (dsOf ws)
theorem vex_fn {f : Fx} (h : PE X e (tCallS (spX Tb f) (WE Wx) (cA Tb fs))) : PE X e (cEX Tb Wx (vFnX f fs)) :=
  PE.imp h fun σ H Q ⟨F, O, env, k, kx, R, h, q, lx⟩ => ⟨F, O, env, _, R, h, fun ws e1 vs H1 R1 r1 g1 h1 => by
    obtain ⟨ds, ed, h1⟩ := vDs_of h1
    refine ⟨hid F O, ds, _, _, R1.hidS, dsOf_dv r1 ed, R1.tb, h1, fun v r H2 x d h2 => ?_, fun C H2 x h2 => lx O σ H2 e1 C (R1.grow x).1 h2⟩
    obtain ⟨R2, g2⟩ := R1.grow x
    exact q (.d r) e1 v H2 R2 d (g1.trans g2) h2⟩
theorem vsx_expr (ha : PE X e (cEX Tb Wx f)) (hs : swapsWith e none pos.line X.env = pure false := by rfl) : PS X (.Expr e pos) (cSX Tb Wx fun E kx env => f env (fun _ e1 => E.nx e1) kx) :=
  PS.imp (ps_expr ha hs) fun D σ H ⟨F, O, env, E, kx, R, h, C, lx⟩ => ⟨F, O, env, _, kx, R, h, fun w e1 v H1 R1 r1 g1 h1 => C.nx _ _ _ _ R1 h1, lx⟩
theorem vsx_set {i : Nat} (h : PS X st (tAsg (cEX Tb Wx f) (gName i))) : PS X st (cSX Tb Wx fun E kx env => f env (vTell fun x e1 => bName i x e1 E.nx) kx) :=
  PS.imp h fun D σ H ⟨F, O, env, E, kx, R, h, C, lx⟩ => ⟨F, O, env, _, kx, R, h, fun w e1 v H1 R1 r1 g1 h1 => by
    obtain ⟨s2, x, e2, R2, d, h2⟩ := vTell_of R1 r1 h1
    exact C.nx _ _ _ _ (R2.putD h2.1 d) h2.2, lx⟩
theorem vsx_ret (ha : PE X e (cEX Tb Wx f)) : PS X (.Return (some e) pos) (cSX Tb Wx fun E kx env => f env (vTell E.rt) kx) :=
  PS.imp (ps_ret ha) fun D σ H ⟨F, O, env, E, kx, R, h, C, lx⟩ => ⟨F, O, env, _, kx, R, h, fun w e1 v H1 R1 r1 g1 h1 => by
    obtain ⟨s2, x, e2, R2, d, h2⟩ := vTell_of R1 r1 h1
    exact C.rt _ _ _ _ _ _ R2 d h2, lx⟩
/-- if not f(..): suite -/
theorem vsx_ifnot {sa : List Stmt} {p2 : Pos} (ha : PE X e (cEX Tb Wx f)) (hb : PSs X sa (cSX Tb Wx g)) (he : ∀ whole, isTrue e X.env whole = (do let v ← whole; standAt e.pos; holding [v] (truthy v)) := by intro _; rfl) :
    PS X (.If (.UnaryOp .Not e p2) sa [] pos) (cSX Tb Wx fun E kx env => f env (fun w e1 => match w with
      | .d (.bool b) => if b = true then E.nx e1 else g E kx e1
      | _ => False) kx) :=
  PS.imp (ps_if (pt_not (pt_truth ha he)) hb pss_nil) fun D σ H ⟨F, O, env, E, kx, R, h, C, lx⟩ => ⟨F, O, env, _, kx, R, h, fun w e1 v H1 R1 r1 g1 h1 => by
    split at h1
    · rename_i b
      cases r1
      refine ⟨b, rfl, ?_⟩
      cases b with
      | true => exact C.nx _ _ _ _ R1 h1
      | false => exact ⟨F, O, e1, E, kx, R1, h1, C, lx⟩
    · exact h1.elim, lx⟩
/-- raise X() -/
theorem vsx_raise {C : Addr} {x : Str} {p p2 : Pos} (hc : X.calm = true) (tk : Takes X Wx) (h : PMk X (.Call (.Name x p) [] [] p2) (fun _ H Q => Q (.ref C) none H)) : PS X (.Raise (some (.Call (.Name x p) [] [] p2)) none pos) (cSX Tb Wx fun E kx env => kx C env) :=
  PS.imp (ps_raise hc tk h) fun D σ H ⟨F, O, env, E, kx, R, h, _, lx⟩ => lx O σ H env C R h
theorem PS.nox {t : TS} (h : PS X.nox st t) : PS X st t := ⟨fun pins s σ H D I hw =>
  wpAny_mono (h.run pins s σ H D (I.wish _) hw) (fun _ _ q => q.unwish) fun _ _ z => z.elim⟩
theorem vsx_calm {g : VG} (h : VS X.nox Tb st g) : PS X st (cSX Tb Wx fun E _ env => g E env) :=
  PS.imp (PS.nox h) fun D σ H ⟨F, O, env, E, kx, R, h, C, _⟩ => ⟨F, O, env, E, R, h, C⟩
theorem vssx_calm {g : VG} {sts : List Stmt} (h : VSs X.nox Tb sts g) : PSs X sts (cSX Tb Wx fun E _ env => g E env) :=
  PSs.imp (PSs.nox h) fun D σ H ⟨F, O, env, E, kx, R, h, C, _⟩ => ⟨F, O, env, E, R, h, C⟩
theorem vssx_nil : PSs X [] (cSX Tb Wx fun E _ env => E.nx env) := PSs.imp pss_nil fun D σ H ⟨F, O, env, E, kx, R, h, C, _⟩ => C.nx _ _ _ _ R h
theorem vssx_one (h : PS X st (cSX Tb Wx g)) : PSs X [st] (cSX Tb Wx g) := pss_one h
theorem vssx_cons (h1 : PS X st (cSX Tb Wx g1)) (h2 : PSs X rest (cSX Tb Wx g2)) : PSs X (st :: rest) (cSX Tb Wx fun E kx env => g1 { E with nx := Go (fun E e => g2 E kx e) E } kx env) :=
  PSs.imp (pss_cons h1 h2) fun D σ H ⟨F, O, env, E, kx, R, h, C, lx⟩ => ⟨F, O, env, _, kx, R, h, ⟨fun O σ H env R h => ⟨F, O, env, E, kx, R, h, C, lx⟩, C.rt, C.bk, C.ct, C.ro⟩, lx⟩
/-- a body that may raise, run from its data -/
theorem run_bodyE {body : List Stmt} {f : Fx} {N : List Str} {vs : List V} {H : Hp} {Q : VK} {E : XK} (hb : PSs X body (cSX Tb (fun cls d _ H => E cls d H) g)) (h : spX Tb f vs H Q E)
    (hg : ∀ ds k kx, f ds k kx → g { nx := fun _ => k .none, rt := fun r _ => k r } (fun C _ => kx C) (env0 N.length ds)) : ∃ t, PSs X body t ∧ t { nx := fun _ H' => Q .non H', rt := Q } (L2.start N vs) H := by
  obtain ⟨hd, ds, k, kx, h0, d, t, hf, q, qx⟩ := h
  refine ⟨_, hb, ⟨H, [], hd, []⟩, _, _, _, _, rep0 h0 d t, hg ds k kx hf, ⟨fun O σ H' env R h => q .non .none H' R.ex .non h, fun O σ H' env v x R dv h => q v x H' R.ex (Dv.le (fun a o e _ => ?_) _ _ dv) h, fun _ _ _ _ _ h => h.elim, fun _ _ _ _ _ h => h.elim, fun _ _ _ _ _ _ _ _ _ _ _ _ h => h.elim⟩, fun O σ H' env C R h => qx C H' R.ex h⟩
  obtain ⟨n, e⟩ := hide_some e
  exact hide_of (fun z => n (.inl z)) e
/-! ### a try that catches -/
/-- slot i is the caught one's; behind the suite it is gone -/
def vTry (K : PySem.W.Frag) (c : Value) (i : Nat) (g : VGX) (gs : VG) : VG := fun E env => i < env.length ∧ g E (fun C e => PySem.W.exmOne K (.ref C) c = some true ∧ i < e.length ∧
  ∀ a, gs { E with nx := fun e1 => i < e1.length ∧ E.nx (e1.set i .u), bk := fun e1 => i < e1.length ∧ E.bk (e1.set i .u), ct := fun e1 => i < e1.length ∧ E.ct (e1.set i .u), ro := fun _ => False } (e.set i (.x a [(a, ExV C none a)]))) env
theorem vs_try {i : Nat} {c : Value} {g : VGX} {gs : VG} (h : PS X st (fun D σ H => cSX Tb (wKnown X.K c i (fun _ => cS Tb gs) D) g D σ H)) : VS X Tb st (vTry X.K c i g gs) :=
  PS.imp h fun D σ H ⟨F, O, env, E, R, ⟨h0, h⟩, C⟩ => ⟨F, O, env, E, _, R, h, C, fun O1 σ1 H1 e1 Cx R1 h1 => by
    obtain ⟨em, hi, hs⟩ := h1
    refine ⟨Cx, rfl, em, fun a na => ?_⟩
    obtain ⟨R2, _⟩ := R1.grow (Ex.new (C := []) (o := ExV Cx none a) na)
    have nh : ¬ hid F (clr O1 [i]) a := fun z => R1.fresh na (by
      rcases z with z | ⟨j, z⟩
      · exact .inl z
      · exact .inr ⟨j, (clr_some z).2⟩)
    have R3 := R2.put (i := i) (v := some (.ref a)) (s := .x a [(a, ExV Cx none a)]) hi ⟨rfl, fun p hp => by
      rw [List.mem_singleton.mp hp]
      exact ⟨nh, upd_same, fun _ z => nomatch z⟩⟩ ⟨fun _ z => (by cases z), fun _ _ z => (by cases z)⟩
    exact ⟨F, _, _, _, R3, hs a, ⟨fun O σ H env R h => C.nx _ _ _ _ (R.putU h.1) h.2, C.rt, fun O σ H env R h => C.bk _ _ _ _ (R.putU h.1) h.2, fun O σ H env R h => C.ct _ _ _ _ (R.putU h.1) h.2, fun _ _ _ _ _ _ _ _ _ _ _ _ h => h.elim⟩⟩⟩
theorem vs_tryK {body suite : List Stmt} {b₀ : Stmt} {x n : Str} {npos pos pos' : Pos} {i : Nat} {c : Value} {g : VGX} {gs : VG} (hs : X.stack = X.env :: X.outer) (hf : X.env.frame = some X.env.locals) (hex : X.ex = []) (hN : X.N.Nodup) (hi : X.N[i]? = some n) (hln : X.env.kindOf n = some .local)
    (hc : L2.Names X x c) (hb : ∀ (W : WX) (pn : List (Addr × Obj)) (xe : Value → Shared → Prop), Takes (X.tr pn xe) W → PSs (X.tr pn xe) body (cSX Tb W g)) (hsu : ∀ (a : Addr) (pn : List (Addr × Obj)), VSs (X.suite a pn) Tb (b₀ :: suite) gs) :
    VS X Tb (.Try body [.ExceptHandler (some (.Name x npos)) (some n) (b₀ :: suite) pos'] [] [] pos) (vTry X.K c i g gs) :=
  vs_try (ps_try_known (tb := fun W => cSX Tb W g) (ts := fun _ => cS Tb gs) hs hf hex hN hi hln hc hb hsu)
/-- name = the caught one -/
def vCopy (j i : Nat) : VG := fun E env => match env[i]? with
  | some (.x a ts) => j < env.length ∧ E.nx (env.set j (.x a ts))
  | _ => False
theorem vs_copy {i j : Nat} (h : PS X st (tAsg (tVar i) (gName j))) : VS X Tb st (vCopy j i) :=
  PS.imp h fun D σ H ⟨F, O, env, E, R, h, C⟩ => by
    unfold vCopy at h
    split at h
    · rename_i a ts ez
      obtain ⟨v, hv, rfl, hts⟩ := R.slot ez
      refine ⟨_, hv, C.nx _ _ _ _ (R.put (v := some (.ref a)) (s := .x a ts) h.1 ⟨rfl, fun p hp => ?_⟩ ⟨fun _ z => (by cases z), fun _ _ z => (by cases z)⟩) h.2⟩
      obtain ⟨n, q1, q2⟩ := hts p hp
      exact ⟨fun z => n (by
        rcases z with z | ⟨l, z⟩
        · exact .inl z
        · exact .inr ⟨l, (clr_some z).2⟩), q1, q2⟩
    · exact h.elim
/-! ### isinstance of a known one -/
def rIsV (K : PySem.W.Frag) : List V → Hp → VK → Prop := fun xs H Q => ∃ (a C : Addr) (c : V) (cv : Value) (b : Bool), xs = [.ref a, c] ∧ H a = some (ExV C none a) ∧ ExcC K C ∧ ClsV c cv ∧ PySem.W.kitOne K (.ref C) cv = some b ∧ Q (.bl b) H
theorem inst_of {pins : List (Addr × Obj)} {σ : L2.St} {H : Hp} {s : Shared} {a C : Addr} (I : Inv X pins σ H s) (h : H a = some (ExV C none a)) : ∃ oe, PySem.W.InstAt s.heap a oe C none := by
  obtain ⟨⟨oe, e, ⟨z1, z2⟩, vs, z3⟩, _⟩ := I.hok a _ h
  obtain ⟨oc, od, oda, osl⟩ := oe
  dsimp only at z1 z2 z3
  subst z1 z2 z3
  exact ⟨_, e, rfl, rfl, trivial⟩
theorem call_isV : CallR X (.builtin "isinstance") (rIsV X.K) := by
  intro pins s σ H xs us Q I r h
  obtain ⟨a, C, c, cv, b, rfl, ha, T, kc, e, q⟩ := h
  obtain ⟨u1, u2, rfl, r1, r2⟩ := vals2 r
  cases r1
  have e2 := kc.eq r2
  subst e2
  obtain ⟨oe, J⟩ := inst_of I ha
  exact PySem.W.kia_one (PySem.W.handS_kitx_exc T.hg T.hk T.hs T.hd T.ha T.hn T.ht T.hm) I.kIn J e (fun z => nomatch z) fun tk => ⟨.bl b, H, I.kept (t' := tk) fun _ _ z => z, rfl, q⟩
/-- .. of one of several classes -/
def rIsVT (K : PySem.W.Frag) : List V → Hp → VK → Prop := fun xs H Q => ∃ (a C tp : Addr) (cs : List V) (us : List Value) (b : Bool), xs = [.ref a, .ref tp] ∧ H a = some (ExV C none a) ∧ ExcC K C ∧ H tp = some (.tup cs) ∧ Paired ClsV cs us ∧ PySem.W.kitAny K (.ref C) us = some b ∧ Q (.bl b) H
theorem call_isVT : CallR X (.builtin "isinstance") (rIsVT X.K) := by
  intro pins s σ H xs us Q I r h
  obtain ⟨a, C, tp, cs, ws, b, rfl, ha, T, ht, kc, e, q⟩ := h
  obtain ⟨u1, u2, rfl, r1, r2⟩ := vals2 r
  cases r1
  cases r2
  obtain ⟨oe, J⟩ := inst_of I ha
  obtain ⟨_, its, rv, o, h1, h2, n, h3⟩ := (show ObjOk X.prog X.w H s.heap tp (.tup cs) from I.hok tp _ ht)
  have e3 := ClsV.all kc rv
  subst e3
  obtain ⟨oc, od, dt, sl⟩ := o
  simp only at h2 h3
  subst h2 h3
  exact PySem.W.kia_tup (PySem.W.handS_kitx_exc T.hg T.hk T.hs T.hd T.ha T.hn T.ht T.hm) I.kIn J h1 e (fun z => nomatch z) fun tk => ⟨.bl b, H, I.kept (t' := tk) fun _ _ z => z, rfl, q⟩
/-- isinstance(caught, c), c a class by name -/
def vIsV (K : PySem.W.Frag) (i : Nat) (cv : Value) : VF := fun env k => match env[i]? with
  | some (.x a ts) => ∃ C b, (a, ExV C none a) ∈ ts ∧ ExcC K C ∧ PySem.W.kitOne K (.ref C) cv = some b ∧ k (.d (.bool b)) env
  | _ => False
theorem ve_isV {i : Nat} {c : V} {cv : Value} (hc : ClsV c cv) (h : PE X e (tCB (rIsV X.K) (tCons (tVar i) (tCons (tC c) tNil)))) : VE X Tb e (vIsV X.K i cv) :=
  PE.imp h fun σ H Q ⟨F, O, env, k, R, h, q⟩ => by
    unfold vIsV at h
    split at h
    · rename_i a ts ez
      obtain ⟨C, b, m, T, kb, hk⟩ := h
      obtain ⟨v, hv, rfl, hts⟩ := R.slot ez
      exact ⟨_, hv, a, C, c, cv, b, rfl, (hts _ m).2.1, T, hc, kb, q (.d (.bool b)) env _ H R (Dv.bl b) Gr.rfl hk⟩
    · exact h.elim
/-- isinstance(caught, (c, ..)) -/
def tCs : List V → TA
  | [] => tNil
  | c :: cs => tCons (tC c) (tCs cs)
theorem tcs_of {cs : List V} {σ : L2.St} {H : Hp} {Q : List V → Hp → Prop} (h : Q cs H) : tCs cs σ H Q := by
  induction cs generalizing Q with
  | nil => exact h
  | cons c cs ih => exact ih (Q := fun xs G => Q (c :: xs) G) h
def vIsVT (K : PySem.W.Frag) (i : Nat) (us : List Value) : VF := fun env k => match env[i]? with
  | some (.x a ts) => ∃ C b, (a, ExV C none a) ∈ ts ∧ ExcC K C ∧ PySem.W.kitAny K (.ref C) us = some b ∧ k (.d (.bool b)) env
  | _ => False
theorem ve_isVT {i : Nat} {cs : List V} {us : List Value} (hc : Paired ClsV cs us) (hz : cs.length ≤ sizeLine) (h : PE X e (tCB (rIsVT X.K) (tCons (tVar i) (tCons (tTup (tCs cs)) tNil)))) : VE X Tb e (vIsVT X.K i us) :=
  PE.imp h fun σ H Q ⟨F, O, env, k, R, h, q⟩ => by
    unfold vIsVT at h
    split at h
    · rename_i a ts ez
      obtain ⟨C, b, m, T, kb, hk⟩ := h
      obtain ⟨v, hv, rfl, hts⟩ := R.slot ez
      refine ⟨_, hv, tcs_of ⟨hz, fun p hp => ?_⟩⟩
      obtain ⟨R2, g2⟩ := R.grow (Ex.new (C := []) (o := .tup cs) hp)
      have na : a ≠ p := ne_of_none (hts _ m).2.1 hp
      exact ⟨a, C, p, cs, us, b, rfl, by rw [upd_ne na]; exact (hts _ m).2.1, T, upd_same, hc, kb, q (.d (.bool b)) env _ _ R2 (Dv.bl b) g2 hk⟩
    · exact h.elim
/-- caught is None -/
def vIsNo (i : Nat) (f : Bool → Bool) : VF := fun env k => match env[i]? with
  | some (.x _ _) => k (.d (.bool (f false))) env
  | some (.d .none) => k (.d (.bool (f true))) env
  | _ => False
theorem ve_isNo {i : Nat} (h : PE X e (tOp (fun x y H Q => y = .non ∧ Q (.bl (decide (x = .non))) H) (tVar i) (tC .non))) : VE X Tb e (vIsNo i id) :=
  PE.imp h fun σ H Q ⟨F, O, env, k, R, h, q⟩ => by
    unfold vIsNo at h
    split at h
    · rename_i a ts ez
      obtain ⟨v, hv, rfl, hts⟩ := R.slot ez
      refine ⟨_, hv, rfl, q (.d (.bool false)) env _ H R ?_ Gr.rfl h⟩
      rw [decide_eq_false (fun z => nomatch z)]
      exact Dv.bl false
    · rename_i ez
      obtain ⟨v, hv, z, rfl, dz⟩ := R.slot ez
      cases dz
      exact ⟨_, hv, rfl, q (.d (.bool true)) env _ H R (Dv.bl true) Gr.rfl h⟩
    · exact h.elim
/-! ### an own exception class, as the top writes it -/
structure ExK (K : PySem.W.Frag) (mg : Str → Option Value) (x : Str) where
  C : Addr
  m : mg x = some (.ref C)
  kp : PySem.W.keepIn K (.ref C) = true
  xp : PySem.W.excIn K C [.type "ValueError", .type "Exception", .type "BaseException", .type "object"] "ValueError.__new__" = true
  bp : PySem.W.subIn K (.ref C) (.type "BaseException") = some true
  tp : PySem.W.typeIn K (.ref C) = some (.type "type")
  ec : ExcC K C
theorem ExK.made {p pos : Pos} (E : ExK X.K X.mg x) (hg : Gl X x := by rfl) (hdb : (x == ("__debug__" : Str)) = false := by decide) : PMk X (.Call (.Name x p) [] [] pos) (fun _ H Q => Q (.ref E.C) none H) :=
  pmk0 PySem.F.excBase_ValueError E.xp E.m E.kp (raises_own E.bp E.tp) hg hdb
/-- if .. : suite, the suite may raise -/
theorem vsx_if {t : VT} {c : Expr} {sa : List Stmt} (hc : VTt X Tb c t) (hb : PSs X sa (cSX Tb Wx g)) : PS X (.If c sa [] pos) (cSX Tb Wx fun E kx env => t env fun b e1 => if b = true then g E kx e1 else E.nx e1) :=
  PS.imp (ps_if hc hb pss_nil) fun D σ H ⟨F, O, env, E, kx, R, h, C, lx⟩ => ⟨F, O, env, _, R, h, fun b e1 H1 R1 g1 h1 => by
    cases b with
    | true =>
      rw [if_pos rfl] at h1 ⊢
      exact ⟨F, O, e1, E, kx, R1, h1, C, lx⟩
    | false =>
      rw [if_neg Bool.false_ne_true] at h1 ⊢
      exact C.nx _ _ _ _ R1 h1⟩
end
end Sp
end

section
set_option maxHeartbeats 1000000
/-! [f, g, ..][i](..): a def picked from a written list; a call that may raise as the argument of another. -/
namespace Sp
open PySem PySem.Spec PyProof.Rows L2
section
variable {X : Cx} {Tb : List Addr} {Wx : WX} {st : Stmt} {rest : List Stmt} {e fe ie : Expr} {es fes : List Expr} {fs : VA} {fi : VF} {f : VFX} {pos p lp : Pos} {k : Nat}
/-- which def the callee tells -/
def tPick (R : Addr → Sp → Prop) (E : L2.St → XK) (tf : TE) (t : TA) : TE := fun σ H Q => tf σ H fun v H1 => ∃ f sp, v = .ref f ∧ R f sp ∧ t σ H1 fun vs H2 => sp vs H2 Q (E σ)
theorem pe_pick {CX : CXT} {R : Addr → Sp → Prop} {E : L2.St → XK} {tf : TE} {t : TA} (A : ∀ f sp, R f sp → ∃ fd ps, FnOk X.prog X.w X.K X.mg X.base CX k f fd ps sp ∧ PySem.W.keepIn X.K (.ref f) = true ∧ Binds X.K fd ps []) (hr : Room k X.A) (hx : ∀ σ, PassesAt CX X σ (E σ)) (hf : PE X fe tf) (ha : PA X (e :: es) t)
    (ht : eval (.Call fe (e :: es) [] pos) X.env = (do callWith pos (← eval fe X.env) [] (backTo pos (starEach (e :: es) X.env)) (backToKw pos (keywordEach [] X.env))) := by rfl)
    (he : starEach (e :: es) X.env = (false, eval e X.env) :: starEach es X.env := by rfl) (hpl : (backTo pos (starEach es X.env)).any (·.1) = false := by rfl) : PE X (.Call fe (e :: es) [] pos) (tPick R E tf t) := by
  refine ⟨fun pins s σ H Q I h => ?_⟩
  refine Call_ (thn (hf.run pins s σ H _ I h) fun u s1 ⟨y, H1, I1, ry, f, sp, ey, hR, q⟩ => ?_) ht
  subst ey
  obtain rfl : u = Value.ref f := ry
  obtain ⟨fd, ps, F, hk, hb⟩ := A f sp hR
  refine PySem.W.callWith_K (h₀ := X.base) I1.ok.mod.kin hk (thn (ha.run pos pins s1 σ H1 _ I1 q) fun us s2 ⟨vs, H2, I2, r, q2⟩ => ⟨I2.kIn, ?_⟩) he hpl
  exact run_fnS F hr hb (hx σ) I2 r q2
/-- one of these defs, by number -/
def vPickX (gs : List Fx) (fi : VF) (fs : VA) : VFX := fun env k kx => fi env fun w e1 => match w with
  | .d (.int j) => ∃ g, 0 ≤ j ∧ gs[j.toNat]? = some g ∧ vFnX g fs e1 k kx
  | _ => False
structure Pk (X : Cx) (Tb : List Addr) (k : Nat) (p : Addr × Fx) : Prop where
  ok : ∃ fd ps, FnOk X.prog X.w X.K X.mg X.base (L2.CX X.prog X.w) k p.1 fd ps (spX Tb p.2) ∧ PySem.W.keepIn X.K (.ref p.1) = true ∧ Binds X.K fd ps []
theorem vex_pick {gs : List (Addr × Fx)} (A : ∀ p ∈ gs, Pk X Tb k p) (tk : Takes X Wx) (hr : Room k X.A) (hz : gs.length ≤ sizeLine) (hl : PA X fes (tCs (gs.map fun p => V.ref p.1))) (hi : VE X Tb ie fi) (ha : VAs X Tb (e :: es) fs) (hs : PlainIx ie := by intro _ _; rfl)
    (ht : eval (.Call (.Subscript (.List fes lp) ie p) (e :: es) [] pos) X.env = (do callWith pos (← eval (.Subscript (.List fes lp) ie p) X.env) [] (backTo pos (starEach (e :: es) X.env)) (backToKw pos (keywordEach [] X.env))) := by rfl)
    (he : starEach (e :: es) X.env = (false, eval e X.env) :: starEach es X.env := by rfl) (hpl : (backTo pos (starEach es X.env)).any (·.1) = false := by rfl) :
    PE X (.Call (.Subscript (.List fes lp) ie p) (e :: es) [] pos) (cEX Tb Wx (vPickX (gs.map (·.2)) fi fs)) := by
  refine PE.imp (pe_pick (R := fun f sp => ∃ q ∈ gs, f = q.1 ∧ sp = spX Tb q.2) (E := WE Wx) (fun f sp h => ?_) hr (fun σ => passAt tk σ) (pe_ix ix_list (pe_lst hl) hi hs) ha ht he hpl) fun σ H Q h => ?_
  · obtain ⟨q, hq, rfl, rfl⟩ := h
    exact (A q hq).ok
  · obtain ⟨F, O, env, kk, kx, R, h, q, lx⟩ := h
    refine tcs_of ⟨by rw [List.length_map]; exact hz, fun a na => ?_⟩
    obtain ⟨R2, g2⟩ := R.grow (Ex.new (C := []) (o := .lst (gs.map fun p => V.ref p.1)) na)
    have va : ¬ hid F O a := fun z => R.fresh na z
    refine ⟨F, O, env, _, R2, h, fun w e1 v H1 R1 r1 g1 h1 => ?_⟩
    split at h1
    · rename_i j
      cases (show Dv _ v (.int j) from r1)
      obtain ⟨g, j0, hj, h1⟩ := h1
      rw [List.getElem?_map] at hj
      obtain ⟨p0, hp, rfl⟩ := Option.map_eq_some_iff.mp hj
      have ha1 := g1 a _ va upd_same (fun _ z => nomatch z)
      have hat : atI (gs.map fun p => V.ref p.1) j = some (V.ref p0.1) := by
        obtain ⟨n, rfl⟩ : ∃ n : Nat, j = (n : Int) := ⟨j.toNat, by omega⟩
        refine atI_nat ?_
        rw [List.getElem?_map]
        have hp : gs[n]? = some p0 := hp
        rw [hp]
        rfl
      refine ⟨a, _, j, _, rfl, rfl, sq ha1, hat, p0.1, _, rfl, ⟨p0, List.mem_of_getElem? hp, rfl, rfl⟩, F, O, e1, _, R1, h1, fun ws e2 vs H2 R3 r3 g3 h2 => ?_⟩
      obtain ⟨ds, ed, h2⟩ := vDs_of h2
      refine ⟨hid F O, ds, _, _, R3.hidS, dsOf_dv r3 ed, R3.tb, h2, fun v r H3 x d h3 => ?_, fun C H3 x h3 => lx O σ H3 e2 C (R3.grow x).1 h3⟩
      obtain ⟨R4, g4⟩ := R3.grow x
      exact q (.d r) e2 v H3 R4 d (g2.trans (g1.trans (g3.trans g4))) h3
    · exact h1.elim
/-! ### a call that may raise as the one argument -/
def vInX (c : Fc) (f : VFX) : VFX := fun env k kx => f env (fun w e1 => match w with
  | .d x => c [x] fun r => k (.d r) e1
  | _ => False) kx
theorem vex_in {c : Fc} (h : PE X e (tCall (spD Tb c) [] E0 (tCons (cEX Tb Wx f) tNil))) : PE X e (cEX Tb Wx (vInX c f)) :=
  PE.imp h fun σ H Q ⟨F, O, env, k, kx, R, h, q, lx⟩ => ⟨F, O, env, _, kx, R, h, fun w e1 v H1 R1 r1 g1 h1 => by
    split at h1
    · rename_i x
      refine ⟨hid F O, [x], _, R1.hidS, .cons r1 .nil, R1.tb, h1, fun v r H2 ex dr h3 => ?_⟩
      obtain ⟨R3, g3⟩ := R1.grow ex
      exact q (.d r) e1 v H2 R3 dr (g1.trans g3) h3
    · exact h1.elim, lx⟩
/-- .. which may raise too -/
def vXX (c : Fx) (f : VFX) : VFX := fun env k kx => f env (fun w e1 => match w with
  | .d x => c [x] (fun r => k (.d r) e1) fun C => kx C e1
  | _ => False) kx
theorem vex_XX {c : Fx} (h : PE X e (tCallS (spX Tb c) (WE Wx) (tCons (cEX Tb Wx f) tNil))) : PE X e (cEX Tb Wx (vXX c f)) :=
  PE.imp h fun σ H Q ⟨F, O, env, k, kx, R, h, q, lx⟩ => ⟨F, O, env, _, kx, R, h, fun w e1 v H1 R1 r1 g1 h1 => by
    split at h1
    · rename_i x
      refine ⟨hid F O, [x], _, _, R1.hidS, .cons r1 .nil, R1.tb, h1, fun v r H2 ex dr h3 => ?_, fun C H2 ex h3 => lx O σ H2 e1 C (R1.grow ex).1 h3⟩
      obtain ⟨R3, g3⟩ := R1.grow ex
      exact q (.d r) e1 v H2 R3 dr (g1.trans g3) h3
    · exact h1.elim, lx⟩
/-- a slice of what a call tells that may raise, or any operation of one datum: told by the call's datum alone -/
def vUnX (u : PyData → (PyData → Prop) → Prop) (f : VFX) : VFX := fun env k kx => f env (fun w e1 => match w with
  | .d x => u x fun r => k (.d r) e1
  | _ => False) kx
/-- for .. in f(..): suite, f may raise -/
theorem vsx_for {tg iter : Expr} {body : List Stmt} {b : VB} {gb : VG} {sl : List Nat} (hp : PassesOwn (model X.prog X.w) X.A X.env X.xe) (hc : X.calm = true) (ha : PE X iter (cEX Tb Wx f)) (hg : PG X tg (cG Tb sl b)) (hb : VSs X.nox Tb body gb)
    (hs : ∀ x, foldedSetIterable iter X.env x = pure x := by intro _; rfl) : PS X (.For tg iter body [] pos) (cSX Tb Wx fun E kx env => f env (fun w e1 => match w with
      | .d (.list xs) => ForGoal xs.length (fun i => xs[i]?) b gb E e1
      | _ => False) kx) :=
  PS.imp (ps_for hp hc (pi_list ha) hg (PSs.nox hb) hs) fun D σ H ⟨F, O, env, E, kx, R, h, C, lx⟩ => ⟨F, O, env, _, kx, R, h, fun w e0 v H1 R1 r1 gr1 h1 => by
    cases w with
    | own _ => exact h1.elim
    | d x =>
      cases x with
      | list xs =>
        have d : Dv (vw F O H1) v (.list xs) := r1
        cases d with
        | @lst a vs _ ea dv =>
          obtain ⟨Iv, h0, hst, hend⟩ := h1
          have hps : ∀ p ∈ [((V.ref a, PyData.list xs) : V × PyData)], Dv (vw F O H1) p.1 p.2 := fun p hp => by rw [List.mem_singleton.mp hp]; exact .lst ea dv
          have ok := itok_list (K := X.K) (a := a) (xs := xs)
          refine ⟨a, rfl, ⟨vs, sq (hide_some ea).2⟩, ?_⟩
          refine ⟨fun i m σ H => m = xs.length - i ∧ i ≤ xs.length ∧ ∃ O e, Rep Tb { F with ps := [(V.ref a, PyData.list xs)] ++ F.ps } O σ H e ∧ Iv i e, ⟨_, rfl, Nat.zero_le _, O, e0, R1.more hps, h0⟩, ?_⟩
          rintro i m σ2 H2 ⟨rfl, hi, O2, e2, R2, inv⟩
          have iter := ok.2 (vw F O2 H2) H2 view_vw (fun p hp => R2.ps p (List.mem_append_left _ hp)) i
          by_cases lt : i < xs.length
          · obtain ⟨d, ed⟩ := ok.1 i lt
            obtain ⟨go, yl⟩ := iter.1 d lt ed
            refine .inr ⟨go, fun σ H => i + 1 ≤ xs.length ∧ ∃ O e, Rep Tb { F with ps := [(V.ref a, PyData.list xs)] ++ F.ps } O σ H e ∧ Iv (i + 1) e, fun σ3 H3 q => ⟨_, by omega, rfl, q⟩, fun x H3 y => ?_⟩
            obtain ⟨R3, r3, g3⟩ := R2.res (yl x H3 y)
            refine ⟨_, O2, e2, d, _, R3, r3, hst i d e2 lt ed inv, fun σ4 e4 R4 _ h4 => ⟨_, _, e4, _, R4, h4, ⟨fun O σ H env R h => ⟨lt, O, env, R, h⟩, fun O σ H env v x R d h => C.rt O σ H env v x R.fewer d h, fun O σ H env R h => C.nx O σ H env R.fewer h, fun O σ H env R h => ⟨lt, O, env, R, h⟩, fun O σ H env i a vs xs R h1 h2 h3 h => C.ro O σ H env i a vs xs R.fewer h1 h2 h3 h⟩⟩⟩
          · obtain rfl : i = xs.length := by omega
            exact .inl ⟨iter.2 (Nat.le_refl _), C.nx _ _ _ _ R2.fewer (hend _ inv)⟩
      | _ => exact h1.elim, lx⟩
/-- a class of which the place alone is known -/
structure ExN (mg : Str → Option Value) (x : Str) where
  C : Addr
  m : mg x = some (.ref C)
/-! ### isinstance where nothing may have been caught -/
def vIsW (K : PySem.W.Frag) (i : Nat) (cv : Value) : VF := fun env k => match env[i]? with
  | some (.x a ts) => ∃ C b, (a, ExV C none a) ∈ ts ∧ ExcC K C ∧ PySem.W.kitOne K (.ref C) cv = some b ∧ k (.d (.bool b)) env
  | some (.d .none) => ∃ b, PySem.W.kitOne K (.type "NoneType") cv = some b ∧ k (.d (.bool b)) env
  | _ => False
theorem call_isW : CallR X (.builtin "isinstance") (fun xs H Q => rIsV X.K xs H Q ∨ rIsi X.K xs H Q) := by
  intro pins s σ H xs us Q I r h
  rcases h with h | h
  · exact call_isV pins s σ H xs us Q I r h
  · exact call_isi pins s σ H xs us Q I r h
theorem ve_isW {i : Nat} {c : V} {cv : Value} (hc : ClsV c cv) (h : PE X e (tCB (fun xs H Q => rIsV X.K xs H Q ∨ rIsi X.K xs H Q) (tCons (tVar i) (tCons (tC c) tNil)))) : VE X Tb e (vIsW X.K i cv) :=
  PE.imp h fun σ H Q ⟨F, O, env, k, R, h, q⟩ => by
    unfold vIsW at h
    split at h
    · rename_i a ts ez
      obtain ⟨C, b, m, T, kb, hk⟩ := h
      obtain ⟨v, hv, rfl, hts⟩ := R.slot ez
      exact ⟨_, hv, .inl ⟨a, C, c, cv, b, rfl, (hts _ m).2.1, T, hc, kb, q (.d (.bool b)) env _ H R (Dv.bl b) Gr.rfl hk⟩⟩
    · rename_i ez
      obtain ⟨b, kb, hk⟩ := h
      obtain ⟨v, hv, z, rfl, dz⟩ := R.slot ez
      cases dz
      exact ⟨_, hv, .inr ⟨_, c, _, cv, b, rfl, hc, .base .non, kb, q (.d (.bool b)) env _ H R (Dv.bl b) Gr.rfl hk⟩⟩
    · exact h.elim
end
end Sp
end

section
set_option maxHeartbeats 4000000
/-! Generator expressions over a list, with a test, free names and two names of a tuple; what stands in them keeps the heap. -/
namespace Sp
open PySem PySem.Spec PyProof.Rows L2
/-- the generator's body stands at t; s: where the walked list was told -/
structure Qs (X : Cx) (scp : Scope) (ce : Env) (B : Around) (pins : List (Addr × Obj)) (σ : L2.St) (H : Hp) (s t : Shared) (m : Str → Option Value) : Prop where
  sc : ce.scope = scp
  gl : ce.globals = mainGlobals
  bl : ce.builtins = builtinsNs
  cl : ce.cells = cloFrom X.env.cells scp.names []
  hd : B.handled = none
  dp : B.depth ≤ X.A.depth + 1
  un : B.units ≤ X.A.units + 8
  inv : Inv X pins σ H s
  kp : ∀ b o, (∀ ps, H b ≠ some (.tbl ps)) → s.heap.get? b = some o → t.heap.get? b = some o
  ns : t.heap.Ns ce.locals m
theorem Qs.on {X : Cx} {scp : Scope} {ce : Env} {B : Around} {pins : List (Addr × Obj)} {σ : L2.St} {H : Hp} {s t t' : Shared} {m : Str → Option Value} (q : Qs X scp ce B pins σ H s t m) (k : Keeps t t') : Qs X scp ce B pins σ H s t' m := by
  obtain ⟨h, tk, rfl, kk⟩ := k
  exact ⟨q.sc, q.gl, q.bl, q.cl, q.hd, q.dp, q.un, q.inv, fun b o n e => kk b o (q.kp b o n e), q.ns.keeps kk⟩
/-- the tests behind «if» -/
def gTests (ifs : List Expr) (ce : Env) : Sem Bool := forIn ifs true fun c r => if r = true then do let ok ← isTrue c ce (eval c ce); pure (ForInStep.yield ok) else pure (ForInStep.yield r)
def GE1 (X : Cx) (scp : Scope) (nm : Str) (ifs : List Expr) (el : Expr) (pins : List (Addr × Obj)) (σ : L2.St) (H : Hp) (ys : List V) (pz : Nat → Bool) (G : Nat → Value → Prop) : Prop :=
  ∀ (ce : Env) (B : Around) (Er : Value → Shared → Prop) (s t : Shared) (m : Str → Option Value) (i : Nat) (y : V) (v : Value), Qs X scp ce B pins σ H s t m → ys[i]? = some y → RelV y v → m nm = some v →
    wpAny (model X.prog X.w) B (gTests ifs ce) (fun ok t' => ok = pz i ∧ Keeps t t') Er t ∧ (pz i = true → wpAny (model X.prog X.w) B (eval el ce) (fun u t' => G i u ∧ Keeps t t') Er t)
def GE2 (X : Cx) (scp : Scope) (xa xb : Str) (ifs : List Expr) (el : Expr) (pins : List (Addr × Obj)) (σ : L2.St) (H : Hp) (ys : List V) (pz : Nat → Bool) (G : Nat → Value → Prop) : Prop :=
  (∀ i : Nat, i < ys.length → ∃ ad x1 x2, ys[i]? = some (.ref ad) ∧ H ad = some (.tup [x1, x2])) ∧
  ∀ (ce : Env) (B : Around) (Er : Value → Shared → Prop) (s t : Shared) (m : Str → Option Value) (i : Nat) (ad : Addr) (x1 x2 : V) (v1 v2 : Value), Qs X scp ce B pins σ H s t m → ys[i]? = some (.ref ad) → H ad = some (.tup [x1, x2]) → RelV x1 v1 → RelV x2 v2 → m xa = some v1 → m xb = some v2 →
    wpAny (model X.prog X.w) B (gTests ifs ce) (fun ok t' => ok = pz i ∧ Keeps t t') Er t ∧ (pz i = true → wpAny (model X.prog X.w) B (eval el ce) (fun u t' => G i u ∧ Keeps t t') Er t)
section
variable {X : Cx} {pins : List (Addr × Obj)} {σ : L2.St} {H : Hp} {s : Shared}
/-- the generator at g stands ready in z: its answers are those of the places idx -/
def ReadyQ (X : Cx) (pins : List (Addr × Obj)) (σ : L2.St) (H1 : Hp) (P : Addr) (idx : List Nat) (G : Nat → Value → Prop) (g : Addr) (z : Shared) : Prop :=
  ∃ (fp wr : List Addr) (GG : Array GenState → Array GenState → Prop) (F : Nat → Value → Prop) (St : Nat → Shared → Prop),
    WalksS X.prog X.w X.A.in1 g fp wr GG idx.length F St ∧ WalksS X.prog X.w X.A.in1.in1 g fp wr GG idx.length F St ∧ St 0 z ∧ (∀ b ∈ fp, b < z.heap.objs.size) ∧ g ∈ fp ∧ (∀ i z', St i z' → z'.TypeIs (.ref g) "generator") ∧
    (∀ j u, F j u → ∃ i, idx[j]? = some i ∧ G i u) ∧ ∀ z', Moved wr GG z z' → ∃ H2, GxR.Tabbed P H1 H2 ∧ Inv X pins σ H2 z'
theorem gen_q1 {cd P : Addr} {el it : Expr} {ifs : List Expr} {nm : Str} {pn gp : Pos} {scp : Scope} {te : TE} {k : Nat} {Q' : Value → Shared → Prop} {R : List V → (Nat → Bool) → (Nat → Value → Prop) → Hp → Prop}
    (room : Room k X.A) (TB : GxR.TabB X.base X.mg cd P) (hcd : X.env.code = .ref cd) (S : GxR.GenS X.env scp nm) (hit : PE X it te)
    (hfold : ∀ v, genFold it X.env v = pure v) (I : Inv X pins σ H s)
    (h : te σ H fun v H1 => ∃ (l : Addr) (ys : List V) (pz : Nat → Bool) (G : Nat → Value → Prop), v = .ref l ∧ SqL X.K H1 l ys ∧ GE1 X scp nm ifs el pins σ H1 ys pz G ∧ GxR.TabG H1 P ∧ R ys pz G H1)
    (hQ : ∀ ys pz G H1 g z, R ys pz G H1 → ReadyQ X pins σ H1 P (passing pz ys.length 0) G g z → Q' (.ref g) z) :
    wpAny (model X.prog X.w) X.A (eval (.GeneratorExp el [⟨.Name nm pn, it, ifs, 0⟩] scp gp) X.env) Q' X.xe s := by
  refine wpAny_GeneratorExp_walksQD room.hd S.co (closure_ok S.free) S.cell S.dot S.loc S.kind (by have q := room.dp; omega) ?_ hfold
  refine thn (hit.run pins s σ H _ I h) fun xv a ⟨v, H1, J, rv, q⟩ => ?_
  obtain ⟨l, ys, pz, G, rfl, hl, hel, ⟨ps, hT, tok⟩, hR⟩ := q
  obtain rfl : xv = Value.ref l := rv
  obtain ⟨its, rits, hlist, hzz⟩ := J.list hl
  have isL := hlist.isList
  have hlen : its.length = ys.length := by rw [← rits.length]
  have hat : ∀ (i : Nat) (v : Value), its.toArray[i]? = some v → ∃ y, ys[i]? = some y ∧ RelV y v := fun i v hv => by
    have hv2 : its[i]? = some v := by simpa using hv
    have hi : i < ys.length := by have := (List.getElem?_eq_some_iff.mp hv2).1; omega
    obtain ⟨u, hu, ru⟩ := rits.get (List.getElem?_eq_getElem hi)
    rw [hv2] at hu
    cases hu
    exact ⟨_, List.getElem?_eq_getElem hi, ru⟩
  refine wpAny_pyIter_list isL ?_
  generalize hob : ({ cls := .type "list_iterator", data := .fields #[.ref l, .int 0 0] } : Obj) = ob
  have itr : (a.heap.push ob).IsListIter a.heap.objs.size l 0 := by
    rw [← hob]
    exact ⟨_, Heap.get?_push_size _ rfl, rfl, rfl⟩
  have llt : l < a.heap.objs.size := by
    obtain ⟨_, e, _⟩ := _root_.id isL
    exact Heap.lt_size e
  have tabA : a.heap.get? P = some { cls := .none, data := .fields ps } := J.hok P _ hT
  have Plt : P < a.heap.objs.size := Heap.lt_size tabA
  have tabB : (a.heap.push ob).get? P = some { cls := .none, data := .fields ps } := Heap.get?_push_of_some _ tabA
  have codeHd : PySem.W.CodeHd (a.heap.push ob) cd P := TB.code.keeps fun b u e => Heap.get?_push_of_some _ (J.bk b u e)
  have lim : (a.heap.push ob).NoLimit := J.nolimit.push ob
  have goOn : ∀ (code : Value) (hh : Heap) (tk : Nat) (qs : Array Value), Heap.ExtBut P (a.heap.push ob) hh → (a.heap.push ob).objs.size ≤ hh.objs.size → hh.get? P = some { cls := .none, data := .fields qs } → (∃ more, qs = ps ++ more) → TriplesOk qs.toList →
      wpAny (model X.prog X.w) X.A (builtinsFor X.env.globals X.env.builtins) (fun bi z =>
        ∃ Ia fp wr n₀ Pf St₀ pz F, Value.ref a.heap.objs.size = .ref Ia ∧ (∀ A' : Around, A'.handled = none → Walks X.prog X.w A' Ia fp wr n₀ Pf St₀) ∧ St₀ 0 z.heap ∧ (∀ b ∈ fp, b < z.heap.objs.size) ∧ z.heap.NoLimit ∧ cStatics ∉ wr ∧
          (∀ hr : Heap, (∀ b o, z.heap.get? b = some o → hr.get? b = some o) →
            QuietGenD X.prog X.w (genEnv scp (cloFrom X.env.cells scp.names []) z.heap.objs.size code bi X.env) nm ifs el (List.range z.heap.objs.size) wr Pf pz F hr (X.A.depth + 1) (X.A.units + 8)) ∧
          (∀ g h5 tk5 gs, gs.bare = true → z.heap.objs.size < g → h5.objs.size = g + 1 → (∀ b o, z.heap.get? b = some o → h5.get? b = some o) →
            WalksS X.prog X.w X.A.in4 g (g :: z.heap.objs.size :: List.range z.heap.objs.size) (z.heap.objs.size :: wr) (GenOnlyQ z.gens.size) (passing pz n₀ 0).length
              (fun j y => ∃ i, (passing pz n₀ 0)[j]? = some i ∧ F i y) (GenAt X.prog X.w X.A.in4 g z.gens.size z.heap.objs.size (List.range z.heap.objs.size) wr pz n₀ F) →
            GenAt X.prog X.w X.A.in4 g z.gens.size z.heap.objs.size (List.range z.heap.objs.size) wr pz n₀ F 0 { z with gens := z.gens.push gs, toks := tk5, heap := h5 } →
            Q' (.ref g) { z with gens := z.gens.push gs, toks := tk5, heap := h5 })) X.xe { a with heap := hh, toks := tk } := by
    intro code hh tk qs ext big tabC hmore tok2
    obtain ⟨bm, obm, e1, e2, e3, e4, e5, e6, e7, e8⟩ := TB.bm
    have nsP : cStatics ≠ P := fun e => by
      obtain ⟨_, ⟨o', es, ep, ho, hd, _⟩, _⟩ := J.nolimit
      rw [e, tabA] at ho
      cases ho
      cases hd
    have csl : cStatics < a.heap.objs.size := let ⟨_, q, _⟩ := J.nolimit; q.lt
    have szz : (a.heap.push ob).objs.size = a.heap.objs.size + 1 := Heap.size_push ..
    have old : ∀ b u, b ≠ P → a.heap.get? b = some u → hh.get? b = some u := fun b u nb e => ext b u nb (Heap.get?_push_of_some _ e)
    refine wpAny_builtinsFor (m := X.mg) (by rw [J.ok.glob]; exact ((J.mod.glob.keeps J.bk).push ob).extBut ext TB.gP) e1 e2 (old _ _ e4 (J.bk _ _ e5)) e6 e7 e8 ?_
    have lP : l ≠ P := fun e => by
      obtain ⟨_, q, _, _, qd⟩ := _root_.id isL
      rw [e, tabA] at q
      cases q
      cases qd
    have isL2 : hh.IsList l its.toArray := by
      obtain ⟨o, q, r⟩ := _root_.id isL
      exact ⟨o, old _ _ lP q, r⟩
    have itr2 : hh.IsListIter a.heap.objs.size l 0 := itr.at fun u e => ext _ u (Nat.ne_of_gt Plt) e
    refine ⟨a.heap.objs.size, [a.heap.objs.size, l], [a.heap.objs.size], its.toArray.size, (fun i v => its.toArray[i]? = some v), (fun i hp => hp.IsListIter a.heap.objs.size l i ∧ hp.IsList l its.toArray), pz,
      G, rfl, (fun A' hA => Walks.list hA _ _ (Nat.ne_of_lt llt) _), ⟨itr2, isL2⟩, ?_, lim.extBut ext nsP, ?_, ?_, ?_⟩
    · intro b hb
      have big2 : a.heap.objs.size < hh.objs.size := by omega
      rcases List.mem_cons.mp hb with e | hb
      · rw [e]; exact big2
      · rcases List.mem_cons.mp hb with e | hb
        · rw [e]; exact Nat.lt_trans llt big2
        · cases hb
    · intro hb
      rcases List.mem_cons.mp hb with e | hb
      · exact Nat.ne_of_lt csl e
      · cases hb
    · intro hr kr
      have sit : ∀ (B : Around) (t : Shared) (m : Str → Option Value), B.handled = none → B.depth ≤ X.A.depth + 1 → B.units ≤ X.A.units + 8 → t.heap.Ns hh.objs.size m → (∀ b ∈ List.range hh.objs.size, b ∉ [a.heap.objs.size] → ∀ o, hr.get? b = some o → t.heap.get? b = some o) →
          Qs X scp (genEnv scp (cloFrom X.env.cells scp.names []) hh.objs.size code builtinsNs X.env) B pins σ H1 a t m := fun B t m hB hD hU hn hk => by
        refine ⟨rfl, J.ok.glob, rfl, rfl, hB, hD, hU, J, fun b o nt e => ?_, hn⟩
        · skip
          have bP : b ≠ P := fun q => nt ps (by rw [q]; exact hT)
          have bl := Heap.lt_size e
          have bl2 : b < hh.objs.size := Nat.lt_of_lt_of_le bl (by omega)
          refine hk b (List.mem_range.mpr bl2) (fun q => ?_) o (kr b o (old b o bP e))
          rcases List.mem_cons.mp q with q | q
          · exact Nat.ne_of_lt bl q
          · cases q
      refine ⟨fun B Er i v t m hB hD hU hv hn hm hk => ?_, fun B Er i v t m hB hD hU hv hp hn hm hk => ?_⟩
      · obtain ⟨y, hy, ry⟩ := hat i v hv
        exact (hel _ B Er a t m i y v (sit B t m hB hD hU hn hk) hy ry hm).1
      · obtain ⟨y, hy, ry⟩ := hat i v hv
        exact (hel _ B Er a t m i y v (sit B t m hB hD hU hn hk) hy ry hm).2 hp
    · intro g h5 tk5 gs bare gbig sz5 keep5 W hgen
      have n5 : its.toArray.size = ys.length := by rw [List.size_toArray, hlen]
      rw [n5] at W hgen
      refine hQ ys pz G H1 g _ hR ⟨_, _, _, _, _, W.in4_1, W.in4_2, hgen, ?_, List.mem_cons_self, fun i z' st => ?_, fun j u hu => hu, fun z' mv => ?_⟩
      · intro b hb
        have g1 : hh.objs.size < g := gbig
        have g2 : h5.objs.size = g + 1 := sz5
        show b < h5.objs.size
        rw [g2]
        rcases List.mem_cons.mp hb with e | hb
        · rw [e]; exact Nat.lt_succ_self g
        · rcases List.mem_cons.mp hb with e | hb
          · rw [e]; exact Nat.lt_succ_of_lt g1
          · have q : b < hh.objs.size := List.mem_range.mp hb
            exact Nat.lt_succ_of_lt (Nat.lt_trans q g1)
      · obtain ⟨q, _⟩ := st
        exact q.typeIs
      · obtain ⟨more, em⟩ := hmore
        have off : ∀ b u, a.heap.get? b = some u → b ∉ hh.objs.size :: [a.heap.objs.size] := fun b u e hb => by
          have bl := Heap.lt_size e
          rcases List.mem_cons.mp hb with q | q
          · have q2 : hh.objs.size < a.heap.objs.size := by rw [← q]; exact bl
            omega
          · rcases List.mem_cons.mp q with q | q
            · exact Nat.ne_of_lt bl q
            · cases q
        have J2 := GxR.inv_tab (more := more) (h' := z'.heap) (g' := z'.gens) (d' := z'.drawn) (t' := z'.toks) J hT (fun b u nb e => mv.heap b u (off b u e) (keep5 b u (old b u nb e)))
          (by rw [← em]; exact mv.heap P _ (off P _ tabA) (keep5 P _ tabC)) (AllBare.movedS (J.bare.push bare) mv)
        rw [GxR.sh_eta a z' mv.os] at J2
        exact ⟨upd H1 P (.tbl (ps ++ more)), ⟨⟨ps ++ more, upd_same, by rw [← em]; exact tok2⟩, fun b nb => upd_ne nb⟩, J2⟩
  refine ⟨lim, ?_⟩
  cases hf : codeAmong gp ps.toList with
  | none =>
    refine wpAny_genexprCodeX hcd (codeHd.code tabB tok) (codeHd.tab tabB) hf fun c' hh tk hx hge hlt hco' _ htab' _ => ?_
    obtain ⟨_, _, _, _, _, _, _, _, _, _, _, _, _, _, _, _, _, _, _, htr, _⟩ := hco'
    exact goOn _ hh tk _ hx (Nat.le_trans hge (Nat.le_of_lt hlt)) htab'.2 ⟨_, rfl⟩ htr
  | some cv =>
    refine wpAny_genexprCode_hit hcd (codeHd.code tabB tok) hf ?_
    exact goOn cv (a.heap.push ob) a.toks ps (Heap.ExtBut.refl _ _) (Nat.le_refl _) tabB ⟨#[], by simp⟩ tok
theorem gen_q2 {cd P : Addr} {el it : Expr} {ifs : List Expr} {xa xb : Str} {pn pb pt gp : Pos} {kt : Nat} {scp : Scope} {te : TE} {k : Nat} {Q' : Value → Shared → Prop} {R : List V → (Nat → Bool) → (Nat → Value → Prop) → Hp → Prop}
    (room : Room k X.A) (TB : GxR.TabB X.base X.mg cd P) (hcd : X.env.code = .ref cd) (S : GxR.GenS X.env scp xa) (hxb : scp.names.lookup xb = some .local) (hab : xa ≠ xb) (hit : PE X it te)
    (hfold : ∀ v, genFold it X.env v = pure v) (I : Inv X pins σ H s)
    (h : te σ H fun v H1 => ∃ (l : Addr) (ys : List V) (pz : Nat → Bool) (G : Nat → Value → Prop), v = .ref l ∧ SqL X.K H1 l ys ∧ GE2 X scp xa xb ifs el pins σ H1 ys pz G ∧ GxR.TabG H1 P ∧ R ys pz G H1)
    (hQ : ∀ ys pz G H1 g z, R ys pz G H1 → ReadyQ X pins σ H1 P (passing pz ys.length 0) G g z → Q' (.ref g) z) :
    wpAny (model X.prog X.w) X.A (eval (.GeneratorExp el [⟨.Tuple [.Name xa pn, .Name xb pb] kt pt, it, ifs, 0⟩] scp gp) X.env) Q' X.xe s := by
  refine wpAny_GeneratorExp_walksQTD room.hd S.co (closure_ok S.free) S.cell S.dot S.loc hxb hab S.kind (by have q := room.dp; omega) ?_ hfold
  refine thn (hit.run pins s σ H _ I h) fun xv a ⟨v, H1, J, rv, q⟩ => ?_
  obtain ⟨l, ys, pz, G, rfl, hl, hel, ⟨ps, hT, tok⟩, hR⟩ := q
  obtain rfl : xv = Value.ref l := rv
  obtain ⟨its, rits, hlist, hzz⟩ := J.list hl
  have isL := hlist.isList
  have hlen : its.length = ys.length := by rw [← rits.length]
  have hat : ∀ (i : Nat) (v : Value), its.toArray[i]? = some v → ∃ y, ys[i]? = some y ∧ RelV y v := fun i v hv => by
    have hv2 : its[i]? = some v := by simpa using hv
    have hi : i < ys.length := by have := (List.getElem?_eq_some_iff.mp hv2).1; omega
    obtain ⟨u, hu, ru⟩ := rits.get (List.getElem?_eq_getElem hi)
    rw [hv2] at hu
    cases hu
    exact ⟨_, List.getElem?_eq_getElem hi, ru⟩
  have tup : ∀ i : Nat, ∃ p : Addr × Array Value, i < its.toArray.size → ∃ x1 x2 v1 v2, its.toArray[i]? = some (.ref p.1) ∧ ys[i]? = some (.ref p.1) ∧ H1 p.1 = some (.tup [x1, x2]) ∧ RelV x1 v1 ∧ RelV x2 v2 ∧ a.heap.IsTuple p.1 p.2 ∧ p.2 = #[v1, v2] := fun i => by
    by_cases hi : i < its.toArray.size
    · have hi2 : i < ys.length := by rw [List.size_toArray] at hi; omega
      obtain ⟨ad, x1, x2, hy, ht⟩ := hel.1 i hi2
      obtain ⟨us, rus, hu, _⟩ := J.tuple (sqt ht)
      obtain ⟨y, hy2, ry⟩ := hat i _ (Array.getElem?_eq_getElem hi)
      rw [hy] at hy2
      cases hy2
      cases us with
      | nil => cases rus
      | cons v1 us =>
        cases us with
        | nil => cases rus with | cons _ q => cases q
        | cons v2 us =>
          cases us with
          | cons _ _ => cases rus with | cons _ q => cases q with | cons _ q => cases q
          | nil =>
            cases rus with
            | cons r1 q =>
              cases q with
              | cons r2 _ =>
                exact ⟨(ad, #[v1, v2]), fun _ => ⟨x1, x2, v1, v2, by rw [Array.getElem?_eq_getElem hi]; exact congrArg some ry, hy, ht, r1, r2, hu, rfl⟩⟩
    · exact ⟨(0, #[]), fun z => absurd z hi⟩
  obtain ⟨pf, hpf⟩ := Classical.axiomOfChoice tup
  refine wpAny_pyIter_list isL ?_
  generalize hob : ({ cls := .type "list_iterator", data := .fields #[.ref l, .int 0 0] } : Obj) = ob
  have itr : (a.heap.push ob).IsListIter a.heap.objs.size l 0 := by
    rw [← hob]
    exact ⟨_, Heap.get?_push_size _ rfl, rfl, rfl⟩
  have llt : l < a.heap.objs.size := by
    obtain ⟨_, e, _⟩ := _root_.id isL
    exact Heap.lt_size e
  have tabA : a.heap.get? P = some { cls := .none, data := .fields ps } := J.hok P _ hT
  have Plt : P < a.heap.objs.size := Heap.lt_size tabA
  have tabB : (a.heap.push ob).get? P = some { cls := .none, data := .fields ps } := Heap.get?_push_of_some _ tabA
  have codeHd : PySem.W.CodeHd (a.heap.push ob) cd P := TB.code.keeps fun b u e => Heap.get?_push_of_some _ (J.bk b u e)
  have lim : (a.heap.push ob).NoLimit := J.nolimit.push ob
  have goOn : ∀ (code : Value) (hh : Heap) (tk : Nat) (qs : Array Value), Heap.ExtBut P (a.heap.push ob) hh → (a.heap.push ob).objs.size ≤ hh.objs.size → hh.get? P = some { cls := .none, data := .fields qs } → (∃ more, qs = ps ++ more) → TriplesOk qs.toList →
      wpAny (model X.prog X.w) X.A (builtinsFor X.env.globals X.env.builtins) (fun bi z =>
        ∃ Ia fp wr n₀ Pf St₀ Md pz F, Value.ref a.heap.objs.size = .ref Ia ∧ (∀ A' : Around, A'.handled = none → WalksU X.prog X.w A' Ia fp wr n₀ Pf St₀ Md) ∧ (∀ i vals, Pf i vals → ∃ va vb, vals = #[va, vb]) ∧ St₀ 0 z.heap ∧ (∀ b ∈ fp, b < z.heap.objs.size) ∧ z.heap.NoLimit ∧ cStatics ∉ wr ∧
          (∀ hr : Heap, (∀ b o, z.heap.get? b = some o → hr.get? b = some o) →
            QuietGenTD X.prog X.w (genEnv scp (cloFrom X.env.cells scp.names []) z.heap.objs.size code bi X.env) xa xb ifs el (List.range z.heap.objs.size) wr Pf pz F hr (X.A.depth + 1) (X.A.units + 8)) ∧
          (∀ g h5 tk5 gs, gs.bare = true → z.heap.objs.size < g → h5.objs.size = g + 1 → (∀ b o, z.heap.get? b = some o → h5.get? b = some o) →
            WalksS X.prog X.w X.A.in4 g (g :: z.heap.objs.size :: List.range z.heap.objs.size) (z.heap.objs.size :: wr) (GenOnlyQ z.gens.size) (passing pz n₀ 0).length
              (fun j y => ∃ i, (passing pz n₀ 0)[j]? = some i ∧ F i y) (GenAt X.prog X.w X.A.in4 g z.gens.size z.heap.objs.size (List.range z.heap.objs.size) wr pz n₀ F) →
            GenAt X.prog X.w X.A.in4 g z.gens.size z.heap.objs.size (List.range z.heap.objs.size) wr pz n₀ F 0 { z with gens := z.gens.push gs, toks := tk5, heap := h5 } →
            Q' (.ref g) { z with gens := z.gens.push gs, toks := tk5, heap := h5 })) X.xe { a with heap := hh, toks := tk } := by
    intro code hh tk qs ext big tabC hmore tok2
    obtain ⟨bm, obm, e1, e2, e3, e4, e5, e6, e7, e8⟩ := TB.bm
    have nsP : cStatics ≠ P := fun e => by
      obtain ⟨_, ⟨o', es, ep, ho, hd, _⟩, _⟩ := J.nolimit
      rw [e, tabA] at ho
      cases ho
      cases hd
    have csl : cStatics < a.heap.objs.size := let ⟨_, q, _⟩ := J.nolimit; q.lt
    have szz : (a.heap.push ob).objs.size = a.heap.objs.size + 1 := Heap.size_push ..
    have old : ∀ b u, b ≠ P → a.heap.get? b = some u → hh.get? b = some u := fun b u nb e => ext b u nb (Heap.get?_push_of_some _ e)
    refine wpAny_builtinsFor (m := X.mg) (by rw [J.ok.glob]; exact ((J.mod.glob.keeps J.bk).push ob).extBut ext TB.gP) e1 e2 (old _ _ e4 (J.bk _ _ e5)) e6 e7 e8 ?_
    have lP : l ≠ P := fun e => by
      obtain ⟨_, q, _, _, qd⟩ := _root_.id isL
      rw [e, tabA] at q
      cases q
      cases qd
    have isL2 : hh.IsList l its.toArray := by
      obtain ⟨o, q, r⟩ := _root_.id isL
      exact ⟨o, old _ _ lP q, r⟩
    have itr2 : hh.IsListIter a.heap.objs.size l 0 := itr.at fun u e => ext _ u (Nat.ne_of_gt Plt) e
    have tlt : ∀ j, j < its.toArray.size → (pf j).1 < a.heap.objs.size := fun j hj => by
      obtain ⟨_, _, _, _, _, _, _, _, _, ht, _⟩ := hpf j hj
      obtain ⟨_, e, _⟩ := ht
      exact Heap.lt_size e
    have tup2 : ∀ j, j < its.toArray.size → hh.IsTuple (pf j).1 (pf j).2 := fun j hj => by
      obtain ⟨_, _, _, _, _, _, _, _, _, ht, _⟩ := hpf j hj
      have tP : (pf j).1 ≠ P := fun e => by
        obtain ⟨_, q, _, _, qd⟩ := _root_.id ht
        rw [e, tabA] at q
        cases q
        cases qd
      obtain ⟨o, q, r⟩ := ht
      exact ⟨o, old _ _ tP q, r⟩
    refine ⟨a.heap.objs.size, a.heap.objs.size :: l :: (List.range its.toArray.size).map (fun j => (pf j).1), [a.heap.objs.size], its.toArray.size, (fun j v => j < its.toArray.size ∧ v = (pf j).2), _, _, pz,
      G, rfl, (fun A' hA => (WalksU.listOfTuples hA _ _ (Nat.ne_of_lt llt) its.toArray (fun j => (pf j).1) (fun j => (pf j).2) (fun j hj => by obtain ⟨_, _, _, _, e, _⟩ := hpf j hj; exact e) (fun j hj => Nat.ne_of_lt (tlt j hj))).bound), (fun i vals hv => by obtain ⟨_, _, v1, v2, _, _, _, _, _, _, e⟩ := hpf i hv.1; exact ⟨v1, v2, by rw [hv.2, e]⟩), ⟨itr2, isL2, tup2⟩, ?_, lim.extBut ext nsP, ?_, ?_, ?_⟩
    · intro b hb
      have big2 : a.heap.objs.size < hh.objs.size := by omega
      rcases List.mem_cons.mp hb with e | hb
      · rw [e]; exact big2
      · rcases List.mem_cons.mp hb with e | hb
        · rw [e]; exact Nat.lt_trans llt big2
        · obtain ⟨j, hj, rfl⟩ := List.mem_map.mp hb
          exact Nat.lt_trans (tlt j (List.mem_range.mp hj)) big2
    · intro hb
      rcases List.mem_cons.mp hb with e | hb
      · exact Nat.ne_of_lt csl e
      · cases hb
    · intro hr kr
      have sit : ∀ (B : Around) (t : Shared) (m : Str → Option Value), B.handled = none → B.depth ≤ X.A.depth + 1 → B.units ≤ X.A.units + 8 → t.heap.Ns hh.objs.size m → (∀ b ∈ List.range hh.objs.size, b ∉ [a.heap.objs.size] → ∀ o, hr.get? b = some o → t.heap.get? b = some o) →
          Qs X scp (genEnv scp (cloFrom X.env.cells scp.names []) hh.objs.size code builtinsNs X.env) B pins σ H1 a t m := fun B t m hB hD hU hn hk => by
        refine ⟨rfl, J.ok.glob, rfl, rfl, hB, hD, hU, J, fun b o nt e => ?_, hn⟩
        · skip
          have bP : b ≠ P := fun q => nt ps (by rw [q]; exact hT)
          have bl := Heap.lt_size e
          have bl2 : b < hh.objs.size := Nat.lt_of_lt_of_le bl (by omega)
          refine hk b (List.mem_range.mpr bl2) (fun q => ?_) o (kr b o (old b o bP e))
          rcases List.mem_cons.mp q with q | q
          · exact Nat.ne_of_lt bl q
          · cases q
      have both : ∀ (i : Nat) (va vb : Value), i < its.toArray.size ∧ #[va, vb] = (pf i).2 → ∃ ad x1 x2, ys[i]? = some (.ref ad) ∧ H1 ad = some (.tup [x1, x2]) ∧ RelV x1 va ∧ RelV x2 vb := fun i va vb hv => by
        obtain ⟨x1, x2, v1, v2, _, hy, ht, r1, r2, _, e⟩ := hpf i hv.1
        have e2 := hv.2
        rw [e] at e2
        cases e2
        exact ⟨_, x1, x2, hy, ht, r1, r2⟩
      refine ⟨fun B Er i va vb t m hB hD hU hv hn hma hmb hk => ?_, fun B Er i va vb t m hB hD hU hv hp hn hma hmb hk => ?_⟩
      · obtain ⟨ad, x1, x2, hy, ht, r1, r2⟩ := both i va vb hv
        exact (hel.2 _ B Er a t m i ad x1 x2 va vb (sit B t m hB hD hU hn hk) hy ht r1 r2 hma hmb).1
      · obtain ⟨ad, x1, x2, hy, ht, r1, r2⟩ := both i va vb hv
        exact (hel.2 _ B Er a t m i ad x1 x2 va vb (sit B t m hB hD hU hn hk) hy ht r1 r2 hma hmb).2 hp
    · intro g h5 tk5 gs bare gbig sz5 keep5 W hgen
      have n5 : its.toArray.size = ys.length := by rw [List.size_toArray, hlen]
      rw [n5] at W hgen
      refine hQ ys pz G H1 g _ hR ⟨_, _, _, _, _, W.in4_1, W.in4_2, hgen, ?_, List.mem_cons_self, fun i z' st => ?_, fun j u hu => hu, fun z' mv => ?_⟩
      · intro b hb
        have g1 : hh.objs.size < g := gbig
        have g2 : h5.objs.size = g + 1 := sz5
        show b < h5.objs.size
        rw [g2]
        rcases List.mem_cons.mp hb with e | hb
        · rw [e]; exact Nat.lt_succ_self g
        · rcases List.mem_cons.mp hb with e | hb
          · rw [e]; exact Nat.lt_succ_of_lt g1
          · have q : b < hh.objs.size := List.mem_range.mp hb
            exact Nat.lt_succ_of_lt (Nat.lt_trans q g1)
      · obtain ⟨q, _⟩ := st
        exact q.typeIs
      · obtain ⟨more, em⟩ := hmore
        have off : ∀ b u, a.heap.get? b = some u → b ∉ hh.objs.size :: [a.heap.objs.size] := fun b u e hb => by
          have bl := Heap.lt_size e
          rcases List.mem_cons.mp hb with q | q
          · have q2 : hh.objs.size < a.heap.objs.size := by rw [← q]; exact bl
            omega
          · rcases List.mem_cons.mp q with q | q
            · exact Nat.ne_of_lt bl q
            · cases q
        have J2 := GxR.inv_tab (more := more) (h' := z'.heap) (g' := z'.gens) (d' := z'.drawn) (t' := z'.toks) J hT (fun b u nb e => mv.heap b u (off b u e) (keep5 b u (old b u nb e)))
          (by rw [← em]; exact mv.heap P _ (off P _ tabA) (keep5 P _ tabC)) (AllBare.movedS (J.bare.push bare) mv)
        rw [GxR.sh_eta a z' mv.os] at J2
        exact ⟨upd H1 P (.tbl (ps ++ more)), ⟨⟨ps ++ more, upd_same, by rw [← em]; exact tok2⟩, fun b nb => upd_ne nb⟩, J2⟩
  refine ⟨lim, ?_⟩
  cases hf : codeAmong gp ps.toList with
  | none =>
    refine wpAny_genexprCodeX hcd (codeHd.code tabB tok) (codeHd.tab tabB) hf fun c' hh tk hx hge hlt hco' _ htab' _ => ?_
    obtain ⟨_, _, _, _, _, _, _, _, _, _, _, _, _, _, _, _, _, _, _, htr, _⟩ := hco'
    exact goOn _ hh tk _ hx (Nat.le_trans hge (Nat.le_of_lt hlt)) htab'.2 ⟨_, rfl⟩ htr
  | some cv =>
    refine wpAny_genexprCode_hit hcd (codeHd.code tabB tok) hf ?_
    exact goOn cv (a.heap.push ob) a.toks ps (Heap.ExtBut.refl _ _) (Nat.le_refl _) tabB ⟨#[], by simp⟩ tok
end
end Sp
end

section
set_option maxHeartbeats 4000000
/-! What stands in a generator expression, by its data: it keeps the heap. -/
namespace Sp
open PySem PySem.Spec PyProof.Rows L2
/-- by the names' data of the def (En) and of the generator's own names -/
abbrev QF := En → List PyData → (PyData → Prop) → Prop
abbrev QB := En → List PyData → (Bool → Prop) → Prop
def Own (Tb : List Addr) (F : Fr) (O : Ow) (H : Hp) (nms : List Str) (ls : List PyData) (m : Str → Option Value) : Prop :=
  ∀ (j : Nat) (x : Str) (d : PyData), nms[j]? = some x → ls[j]? = some d → ∃ v u, m x = some u ∧ RelV v u ∧ Dv (vw F O H) v d
def QV (X : Cx) (Tb : List Addr) (scp : Scope) (nms : List Str) (e : Expr) (f : QF) : Prop :=
  ∀ (ce : Env) (B : Around) (Er : Value → Shared → Prop) (pins : List (Addr × Obj)) (σ : L2.St) (H : Hp) (s t : Shared) (m : Str → Option Value) (F : Fr) (O : Ow) (env : En) (ls : List PyData) (k : PyData → Prop),
    Qs X scp ce B pins σ H s t m → Rep Tb F O σ H env → Own Tb F O H nms ls m → f env ls k →
    wpAny (model X.prog X.w) B (eval e ce) (fun u t' => (∃ v d, RelV v u ∧ Dv (vw F O H) v d ∧ k d) ∧ Keeps t t') Er t
def QT (X : Cx) (Tb : List Addr) (scp : Scope) (nms : List Str) (ifs : List Expr) (f : QB) : Prop :=
  ∀ (ce : Env) (B : Around) (Er : Value → Shared → Prop) (pins : List (Addr × Obj)) (σ : L2.St) (H : Hp) (s t : Shared) (m : Str → Option Value) (F : Fr) (O : Ow) (env : En) (ls : List PyData) (k : Bool → Prop),
    Qs X scp ce B pins σ H s t m → Rep Tb F O σ H env → Own Tb F O H nms ls m → f env ls k →
    wpAny (model X.prog X.w) B (gTests ifs ce) (fun ok t' => k ok ∧ Keeps t t') Er t
def qLoc (j : Nat) : QF := fun _ ls k => match ls[j]? with
  | some d => k d
  | none => False
def qFree (i : Nat) : QF := fun env _ k => match env[i]? with
  | some (.d d) => k d
  | _ => False
def qInt (n : Int) : QF := fun _ _ k => k (.int n)
def qSub (fa fb : QF) : QF := fun env ls k => fa env ls fun x => fb env ls fun y => match x, y with
  | .int i, .int j => k (.int (i - j))
  | _, _ => False
def qCmp (f : Int → Int → Bool) (fa fb : QF) : QF := fun env ls k => fa env ls fun x => fb env ls fun y => match x, y with
  | .int i, .int j => k (.bool (f i j))
  | _, _ => False
def qChain (f g : Int → Int → Bool) (fa fb fc : QF) : QF := fun env ls k => fa env ls fun x => fb env ls fun y => match x, y with
  | .int i, .int j => if f i j = true then fc env ls fun z => match z with
      | .int l => k (.bool (g j l))
      | _ => False
    else k (.bool false)
  | _, _ => False
def qAnd (fa fb : QF) : QF := fun env ls k => fa env ls fun x => match x with
  | .bool b => if b = true then fb env ls k else k (.bool false)
  | _ => False
def qIx (fa : QF) (n : Int) : QF := fun env ls k => fa env ls fun x => match x with
  | .tuple xs => ∃ d, atI xs n = some d ∧ k d
  | _ => False
def qYes : QB := fun _ _ k => k true
def qTCmp (f : Int → Int → Bool) (fa fb : QF) : QB := fun env ls k => fa env ls fun x => fb env ls fun y => match x, y with
  | .int i, .int j => k (f i j)
  | _, _ => False
/-- a comparison of ints -/
def CmpI (X : Cx) (op : CmpOp) (f : Int → Int → Bool) : Prop := ∀ (B : Around) (E : Value → Shared → Prop) (s : Shared) (a b : Int) (t u : Tok) (Q : Value → Shared → Prop), Q (.bool (f a b)) s → wpAny (model X.prog X.w) B (compareOp op (.int a t) (.int b u)) Q E s
section
variable {X : Cx} {Tb : List Addr} {scp : Scope} {nms : List Str} {a b c e : Expr} {fa fb fc : QF} {pos : Pos} {f g : Int → Int → Bool}
theorem ci_lt : CmpI X .Lt (fun i j => decide (i < j)) := fun _ _ _ _ _ _ _ _ h => lt_int h
theorem ci_le : CmpI X .LtE (fun i j => decide (i ≤ j)) := fun _ _ _ _ _ _ _ _ h => le_int h
theorem ci_gt : CmpI X .Gt (fun i j => decide (i > j)) := fun _ _ _ _ _ _ _ _ h => gt_int h
theorem ci_ge : CmpI X .GtE (fun i j => decide (i ≥ j)) := fun _ _ _ _ _ _ _ _ h => ge_int h
theorem qv_loc {j : Nat} {x : Str} (hj : nms[j]? = some x) (hk : scp.kind = .function) (hl : scp.names.lookup x = some .local) (hd : (x == ("__debug__" : Str)) = false) : QV X Tb scp nms (.Name x pos) (qLoc j) := by
  intro ce B Er pins σ H s t m F O env ls k q R ow h
  unfold qLoc at h
  split at h
  · rename_i d e
    obtain ⟨v, u, hm, r, dv⟩ := ow j x d hj e
    exact wpAny_Name (wpAny_loadName_local (by rw [q.sc]; exact hk) (show ce.scope.names.lookup _ = _ by rw [q.sc]; exact hl) q.ns hm ⟨⟨v, d, r, dv, h⟩, GxR.keeps_refl _⟩) hd
  · exact h.elim
theorem qv_free {i : Nat} {x : Str} (hN : X.N[i]? = some x) (hk : scp.kind = .function) (hl : scp.names.lookup x = some .free) (hm : (x, NameKind.free) ∈ scp.names) (hc : X.env.scope.names.lookup x = some .cell)
    (hf : ∀ y ∈ scp.names, y.2 = .free → ∃ c, X.env.cells.lookup y.1 = some c) (hd : (x == ("__debug__" : Str)) = false) (hcd : (x == ("__classdict__" : Str)) = false) : QV X Tb scp nms (.Name x pos) (qFree i) := by
  intro ce B Er pins σ H s t m F O env ls k q R ow h
  unfold qFree at h
  split at h
  · rename_i d e
    obtain ⟨v, hv, v', rfl, dv⟩ := R.slot e
    obtain ⟨m0, _, hl0⟩ := q.inv.loc
    obtain ⟨u, r, look⟩ := hl0 i x v' hN hv (.inr (.inl hc))
    rcases look with ⟨z, _⟩ | ⟨_, c, hcell, o, ho, hod⟩
    · have z2 : X.env.scope.names.lookup x = some .local := z
      rw [hc] at z2
      cases z2
    · have free := q.inv.freeC x c hcell
      have hc2 : ce.cells.lookup x = some c := by rw [q.cl]; exact NdefX.clo_has hf hm hcell
      exact wpAny_Name (wpAny_loadName_free (by rw [q.sc]; exact hk) (show ce.scope.names.lookup _ = _ by rw [q.sc]; exact hl) hc2 ⟨o, q.kp c o (fun ps z => by rw [free] at z; cases z) ho, hod⟩ ⟨⟨v', d, r, dv, h⟩, GxR.keeps_refl _⟩ hcd) hd
  · exact h.elim
theorem qv_int {n : Int} {j : Nat} : QV X Tb scp nms (.Constant (.int n) j pos) (qInt n) := by
  intro ce B Er pins σ H s t m F O env ls k q R ow h
  exact wpAny_Constant_int ⟨⟨.int n, _, ⟨_, rfl⟩, .int n, h⟩, GxR.keeps_tok _ _⟩
theorem qv_sub (ha : QV X Tb scp nms a fa) (hb : QV X Tb scp nms b fb) : QV X Tb scp nms (.BinOp a .Sub b pos) (qSub fa fb) := by
  intro ce B Er pins σ H s t m F O env ls k q R ow h
  refine wpAny_BinOp (thn (ha ce B Er pins σ H s t m F O env ls _ q R ow h) fun u t1 ⟨⟨v, d, r, dv, h⟩, k1⟩ => thn (hb ce B Er pins σ H s t1 m F O env ls _ (q.on k1) R ow h) fun u2 t2 ⟨⟨v2, d2, r2, dv2, h⟩, k2⟩ => ?_)
  split at h
  · cases dv
    cases dv2
    obtain ⟨_, rfl⟩ := r
    obtain ⟨_, rfl⟩ := r2
    exact SiftDown.sub_int ⟨⟨.int _, _, ⟨_, rfl⟩, .int _, h⟩, kps k1 (kps k2 (GxR.keeps_tok _ _))⟩
  · exact h.elim
theorem qv_cmp {op : CmpOp} (ho : CmpI X op f) (ha : QV X Tb scp nms a fa) (hb : QV X Tb scp nms b fb) (hm : behindInMarks op b = false) : QV X Tb scp nms (.Compare a [op] [b] pos) (qCmp f fa fb) := by
  intro ce B Er pins σ H s t m F O env ls k q R ow h
  refine wpAny_Compare1 (thn (ha ce B Er pins σ H s t m F O env ls _ q R ow h) fun u t1 ⟨⟨v, d, r, dv, h⟩, k1⟩ => thn (hb ce B Er pins σ H s t1 m F O env ls _ (q.on k1) R ow h) fun u2 t2 ⟨⟨v2, d2, r2, dv2, h⟩, k2⟩ => ?_) hm
  split at h
  · cases dv
    cases dv2
    obtain ⟨_, rfl⟩ := r
    obtain ⟨_, rfl⟩ := r2
    exact ho _ _ _ _ _ _ _ _ ⟨⟨.bl _, _, rfl, .bl _, h⟩, kps k1 k2⟩
  · exact h.elim
theorem qv_chain {op op' : CmpOp} (ho : CmpI X op f) (ho' : CmpI X op' g) (ha : QV X Tb scp nms a fa) (hb : QV X Tb scp nms b fb) (hc : QV X Tb scp nms c fc) (hm : lastMarks [op, op'] [b, c] = false) : QV X Tb scp nms (.Compare a [op, op'] [b, c] pos) (qChain f g fa fb fc) := by
  intro ce B Er pins σ H s t m F O env ls k q R ow h
  refine Compare_chain (thn (ha ce B Er pins σ H s t m F O env ls _ q R ow h) fun u t1 ⟨⟨v, d, r, dv, h⟩, k1⟩ => chain_link (thn (hb ce B Er pins σ H s t1 m F O env ls _ (q.on k1) R ow h) fun u2 t2 ⟨⟨v2, d2, r2, dv2, h⟩, k2⟩ => ?_)) hm
  split at h
  · cases dv
    cases dv2
    obtain ⟨_, rfl⟩ := r
    obtain ⟨_, rfl⟩ := r2
    refine ho _ _ _ _ _ _ _ _ (wpAny_truthy_bool ?_)
    split at h
    · rename_i e
      rw [e]
      rw [if_pos rfl]
      refine chain_last (thn (hc ce B Er pins σ H s t2 m F O env ls _ ((q.on k1).on k2) R ow h) fun u3 t3 ⟨⟨v3, d3, r3, dv3, h⟩, k3⟩ => ?_)
      split at h
      · cases dv3
        obtain ⟨_, rfl⟩ := r3
        exact ho' _ _ _ _ _ _ _ _ ⟨⟨.bl _, _, rfl, .bl _, h⟩, kps k1 (kps k2 k3)⟩
      · exact h.elim
    · rename_i e
      have e2 := eq_false_of_ne_true e
      rw [e2, if_neg (by decide)]
      exact ⟨⟨.bl _, _, rfl, .bl _, h⟩, kps k1 k2⟩
  · exact h.elim
theorem qv_one {op : BoolOp} (ha : QV X Tb scp nms a fa) : QV X Tb scp nms (.BoolOp op [a] pos) fa := fun ce B Er pins σ H s t m F O env ls k q R ow h => BoolOp_one (ha ce B Er pins σ H s t m F O env ls k q R ow h)
theorem qv_and {rest : List Expr} (ha : QV X Tb scp nms a fa) (hb : QV X Tb scp nms (.BoolOp .And (b :: rest) pos) fb) : QV X Tb scp nms (.BoolOp .And (a :: b :: rest) pos) (qAnd fa fb) := by
  intro ce B Er pins σ H s t m F O env ls k q R ow h
  refine BoolOp_and (thn (ha ce B Er pins σ H s t m F O env ls _ q R ow h) fun u t1 ⟨⟨v, d, r, dv, h⟩, k1⟩ => ?_)
  split at h
  · rename_i bb
    cases dv
    cases r
    refine wpAny_truthy_bool ?_
    cases bb with
    | true =>
      rw [if_pos rfl] at h ⊢
      exact thn (hb ce B Er pins σ H s t1 m F O env ls _ (q.on k1) R ow h) fun u2 t2 ⟨z, k2⟩ => ⟨z, kps k1 k2⟩
    | false =>
      rw [if_neg (by decide)] at h ⊢
      exact ⟨⟨.bl _, _, rfl, .bl _, h⟩, k1⟩
  · exact h.elim
theorem qt_nil : QT X Tb scp nms [] qYes := fun ce B Er pins σ H s t m F O env ls k q R ow h => wpAny_tests_nil ⟨h, GxR.keeps_refl _⟩
theorem qt_cmp {op : CmpOp} (ho : CmpI X op f) (ha : QV X Tb scp nms a fa) (hb : QV X Tb scp nms b fb) (hm : behindInMarks op b = false) : QT X Tb scp nms [.Compare a [op] [b] pos] (qTCmp f fa fb) := by
  intro ce B Er pins σ H s t m F O env ls k q R ow h
  refine wpAny_tests_one (wpAny_isTrue_Compare1 (thn (ha ce B Er pins σ H s t m F O env ls _ q R ow h) fun u t1 ⟨⟨v, d, r, dv, h⟩, k1⟩ => thn (hb ce B Er pins σ H s t1 m F O env ls _ (q.on k1) R ow h) fun u2 t2 ⟨⟨v2, d2, r2, dv2, h⟩, k2⟩ => ?_) hm)
  split at h
  · cases dv
    cases dv2
    obtain ⟨_, rfl⟩ := r
    obtain ⟨_, rfl⟩ := r2
    exact ho _ _ _ _ _ _ _ _ (wpAny_truthy_bool ⟨h, kps k1 k2⟩)
  · exact h.elim
end
/-- the generator's free names are the def's cells -/
theorem free_by {X : Cx} {scp sc : Scope} {n : Nat} (hs : X.env.scope = sc) (hc : X.env.cells = cellsFrom n X.env.scope.names []) (h : ∀ y ∈ scp.names, y.2 = NameKind.free → sc.names.lookup y.1 = some NameKind.cell) : ∀ y ∈ scp.names, y.2 = NameKind.free → ∃ c, X.env.cells.lookup y.1 = some c := fun y hy e => by
  rw [hc]
  exact cell_has (by rw [hs]; exact h y hy e)
/-! ### the answers -/
theorem places (xs : List PyData) (p : PyData → Bool) : ∀ n, n ≤ xs.length → ((List.range n).filter fun i => ((xs[i]?).map p).getD false).map (fun i => xs[i]?) = ((xs.take n).filter p).map some
  | 0, _ => rfl
  | n + 1, h => by
    have e : xs[n]? = some (xs[n]'(by omega)) := List.getElem?_eq_getElem _
    rw [List.range_succ, List.filter_append, List.map_append, places xs p n (by omega), take_succ e, List.filter_append, List.map_append]
    congr 1
    by_cases z : p (xs[n]'(by omega)) = true
    · rw [List.filter_cons_of_pos (by rw [e]; exact z), List.filter_cons_of_pos z]
      simp [e]
    · rw [List.filter_cons_of_neg (by rw [e]; exact z), List.filter_cons_of_neg z]
      rfl
def idxF (xs : List PyData) (p : PyData → Bool) : List Nat := (List.range xs.length).filter fun i => ((xs[i]?).map p).getD false
theorem idx_at (xs : List PyData) (p : PyData → Bool) : (idxF xs p).map (fun i => xs[i]?) = (xs.filter p).map some := by
  have q := places xs p xs.length (Nat.le_refl _)
  rw [List.take_length] at q
  exact q
theorem idx_len (xs : List PyData) (p : PyData → Bool) : (idxF xs p).length = (xs.filter p).length := by
  have q := congrArg List.length (idx_at xs p)
  rw [List.length_map, List.length_map] at q
  exact q
theorem idx_get {xs : List PyData} {p : PyData → Bool} {j i : Nat} (h : (idxF xs p)[j]? = some i) : (xs.filter p)[j]? = xs[i]? := by
  have q := congrArg (fun l : List (Option PyData) => l[j]?) (idx_at xs p)
  simp only [List.getElem?_map, h, Option.map_some] at q
  cases e : (xs.filter p)[j]? with
  | none => rw [e] at q; cases q
  | some x => rw [e] at q; exact (Option.some.inj q).symm
theorem passing_idx (xs : List PyData) (p : PyData → Bool) (n : Nat) (h : n = xs.length) : passing (fun i => ((xs[i]?).map p).getD false) n 0 = idxF xs p := by
  subst h
  rfl
section
variable {X : Cx} {Tb : List Addr} {scp : Scope}
/-- the generator's answers are the data zs -/
def ReadyZ (X : Cx) (pins : List (Addr × Obj)) (σ : L2.St) (G H1 : Hp) (P : Addr) (zs : List PyData) (g : Addr) (z : Shared) : Prop :=
  ∃ (fp wr : List Addr) (GG : Array GenState → Array GenState → Prop) (F : Nat → Value → Prop) (St : Nat → Shared → Prop),
    WalksS X.prog X.w X.A.in1 g fp wr GG zs.length F St ∧ St 0 z ∧ (∀ b ∈ fp, b < z.heap.objs.size) ∧
    (∀ j u, F j u → ∃ x v, zs[j]? = some x ∧ RelV v u ∧ Dv G v x) ∧ ∀ z', Moved wr GG z z' → ∃ H2, GxR.Tabbed P H1 H2 ∧ Inv X pins σ H2 z'
abbrev QG := En → (List PyData → En → Prop) → Prop
def GenV (X : Cx) (Tb : List Addr) (P : Addr) (ge : Expr) (fz : QG) : Prop :=
  ∀ (pins : List (Addr × Obj)) (σ : L2.St) (H : Hp) (s : Shared) (Q' : Value → Shared → Prop) (F : Fr) (O : Ow) (env : En) (k : List PyData → En → Prop), Inv X pins σ H s → Rep Tb F O σ H env → fz env k →
    (∀ zs e1 H1 g z, Rep Tb F O σ H1 e1 → Gr F O H H1 → k zs e1 → ReadyZ X pins σ (vw F O H1) H1 P zs g z → Q' (.ref g) z) → wpAny (model X.prog X.w) X.A (eval ge X.env) Q' X.xe s
def qGen1 (fi : VF) (ft : QB) (fe : QF) : QG := fun env k => fi env fun w e1 => match lk e1 w with
  | some (.list xs) => ∃ (p : PyData → Bool) (g : PyData → PyData), (∀ x ∈ xs, ft e1 [x] (· = p x)) ∧ (∀ x ∈ xs, p x = true → fe e1 [x] (· = g x)) ∧ k ((xs.filter p).map g) e1
  | _ => False
def qGen2 (fi : VF) (ft : QB) (fe : QF) : QG := fun env k => fi env fun w e1 => match lk e1 w with
  | some (.list xs) => ∃ (p : PyData → Bool) (g : PyData → PyData), (∀ x ∈ xs, ∃ d1 d2, x = .tuple [d1, d2] ∧ ft e1 [d1, d2] (· = p x) ∧ (p x = true → fe e1 [d1, d2] (· = g x))) ∧ k ((xs.filter p).map g) e1
  | _ => False
theorem gen_v1 {cd P : Addr} {el it : Expr} {ifs : List Expr} {nm : Str} {pn gp : Pos} {k0 : Nat} {fi : VF} {ft : QB} {fe : QF} (room : Room k0 X.A) (hP : P ∈ Tb) (TB : GxR.TabB X.base X.mg cd P) (hcd : X.env.code = .ref cd) (S : GxR.GenS X.env scp nm)
    (hit : VE X Tb it fi) (hft : QT X Tb scp [nm] ifs ft) (hfe : QV X Tb scp [nm] el fe) (hfold : ∀ v, genFold it X.env v = pure v) : GenV X Tb P (.GeneratorExp el [⟨.Name nm pn, it, ifs, 0⟩] scp gp) (qGen1 fi ft fe) := by
  intro pins σ H s Q' F O env k I R h q
  refine gen_q1 (R := fun ys pz G H1 => ∃ e1 xs p g, DvA (vw F O H1) ys xs ∧ pz = (fun i => ((xs[i]?).map p).getD false) ∧ G = (fun i u => ∃ x v, xs[i]? = some x ∧ RelV v u ∧ Dv (vw F O H1) v (g x)) ∧ Rep Tb F O σ H1 e1 ∧ Gr F O H H1 ∧ k ((xs.filter p).map g) e1) room TB hcd S hit hfold I
    ⟨F, O, env, _, R, h, fun w e1 v H1 R1 r1 g1 h1 => ?_⟩ (fun ys pz G H1 g0 z hR hG => ?_)
  · split at h1
    · rename_i xs ed
      obtain ⟨p, g, h2, h3, h4⟩ := h1
      obtain ⟨a, vs, rfl, ha, dv⟩ := (R1.dl r1 ed).list view_vw
      refine ⟨a, vs, _, _, rfl, sq ha, ?_, R1.tb P hP, e1, xs, p, g, dv, rfl, rfl, R1, g1, h4⟩
      intro ce B Er s t m i y v qs hy ry hm
      obtain ⟨x, hx, dx⟩ := dv.get' hy
      have mem := List.mem_of_getElem? hx
      have ow : Own Tb F O H1 [nm] [x] m := fun j x' d e1 e2 => by
        cases j with
        | zero => cases e1; cases e2; exact ⟨y, v, hm, ry, dx⟩
        | succ j => cases e1
      refine ⟨thn (hft ce B Er pins σ H1 s t m F O e1 [x] _ qs R1 ow (h2 x mem)) fun ok t' ⟨e, k⟩ => ⟨by dsimp only; rw [hx]; exact e, k⟩, fun hp => ?_⟩
      dsimp only at hp
      rw [hx] at hp
      exact thn (hfe ce B Er pins σ H1 s t m F O e1 [x] _ qs R1 ow (h3 x mem hp)) fun u t' ⟨⟨v2, d, r2, dv2, e⟩, k⟩ => ⟨⟨x, v2, hx, r2, e ▸ dv2⟩, k⟩
    · exact h1.elim
  · obtain ⟨e1, xs, p, g, dv, rfl, rfl, R1, g1, hk⟩ := hR
    rw [passing_idx xs p _ dv.len] at hG
    obtain ⟨fp, wr, GG, Ff, St, W, _, st, hfp, _, _, hF, hI⟩ := hG
    rw [idx_len, ← List.length_map (as := xs.filter p) (f := g)] at W
    refine q _ e1 H1 g0 z R1 g1 hk ⟨fp, wr, GG, Ff, St, W, st, hfp, fun j u hu => ?_, hI⟩
    obtain ⟨i, hi, x, v, hx, r, d⟩ := hF j u hu
    exact ⟨g x, v, by rw [List.getElem?_map, idx_get hi, hx]; rfl, r, d⟩
theorem gen_v2 {cd P : Addr} {el it : Expr} {ifs : List Expr} {xa xb : Str} {pn pb pt gp : Pos} {kt k0 : Nat} {fi : VF} {ft : QB} {fe : QF} (room : Room k0 X.A) (hP : P ∈ Tb) (TB : GxR.TabB X.base X.mg cd P) (hcd : X.env.code = .ref cd) (S : GxR.GenS X.env scp xa) (hxb : scp.names.lookup xb = some .local) (hab : xa ≠ xb)
    (hit : VE X Tb it fi) (hft : QT X Tb scp [xa, xb] ifs ft) (hfe : QV X Tb scp [xa, xb] el fe) (hfold : ∀ v, genFold it X.env v = pure v) : GenV X Tb P (.GeneratorExp el [⟨.Tuple [.Name xa pn, .Name xb pb] kt pt, it, ifs, 0⟩] scp gp) (qGen2 fi ft fe) := by
  intro pins σ H s Q' F O env k I R h q
  refine gen_q2 (R := fun ys pz G H1 => ∃ e1 xs p g, DvA (vw F O H1) ys xs ∧ pz = (fun i => ((xs[i]?).map p).getD false) ∧ G = (fun i u => ∃ x v, xs[i]? = some x ∧ RelV v u ∧ Dv (vw F O H1) v (g x)) ∧ Rep Tb F O σ H1 e1 ∧ Gr F O H H1 ∧ k ((xs.filter p).map g) e1) room TB hcd S hxb hab hit hfold I
    ⟨F, O, env, _, R, h, fun w e1 v H1 R1 r1 g1 h1 => ?_⟩ (fun ys pz G H1 g0 z hR hG => ?_)
  · split at h1
    · rename_i xs ed
      obtain ⟨p, g, h2, h4⟩ := h1
      obtain ⟨a, vs, rfl, ha, dv⟩ := (R1.dl r1 ed).list view_vw
      have two : ∀ (i : Nat) (y : V), vs[i]? = some y → ∃ d1 d2 ad x1 x2, xs[i]? = some (.tuple [d1, d2]) ∧ y = .ref ad ∧ H1 ad = some (.tup [x1, x2]) ∧ Dv (vw F O H1) x1 d1 ∧ Dv (vw F O H1) x2 d2 := fun i y hy => by
        obtain ⟨x, hx, dx⟩ := dv.get' hy
        obtain ⟨d1, d2, rfl, _⟩ := h2 x (List.mem_of_getElem? hx)
        cases dx with
        | @tup ad us _ e du =>
          cases du with
          | cons a1 du =>
            cases du with
            | cons a2 du =>
              cases du
              exact ⟨d1, d2, ad, _, _, hx, rfl, (hide_some e).2, a1, a2⟩
      refine ⟨a, vs, _, _, rfl, sq ha, ⟨fun i hi => ?_, ?_⟩, R1.tb P hP, e1, xs, p, g, dv, rfl, rfl, R1, g1, h4⟩
      · obtain ⟨d1, d2, ad, x1, x2, hx, ey, ht, _⟩ := two i _ (List.getElem?_eq_getElem hi)
        exact ⟨ad, x1, x2, by rw [List.getElem?_eq_getElem hi, ey], ht⟩
      intro ce B Er s t m i ad x1 x2 v1 v2 qs hy ht r1 r2 hm1 hm2
      obtain ⟨d1, d2, ad', x1', x2', hx, ey, ht', a1, a2⟩ := two i _ hy
      cases ey
      rw [ht] at ht'
      cases ht'
      have mem := List.mem_of_getElem? hx
      obtain ⟨d1', d2', ed, t1, t2⟩ := h2 _ mem
      cases ed
      have ow : Own Tb F O H1 [xa, xb] [d1, d2] m := fun j x' d e1 e2 => by
        rcases j with _ | _ | j
        · cases e1; cases e2; exact ⟨x1, v1, hm1, r1, a1⟩
        · cases e1; cases e2; exact ⟨x2, v2, hm2, r2, a2⟩
        · cases e1
      refine ⟨thn (hft ce B Er pins σ H1 s t m F O e1 [d1, d2] _ qs R1 ow t1) fun ok t' ⟨e, k⟩ => ⟨by rw [hx]; exact e, k⟩, fun hp => ?_⟩
      rw [hx] at hp
      exact thn (hfe ce B Er pins σ H1 s t m F O e1 [d1, d2] _ qs R1 ow (t2 hp)) fun u t' ⟨⟨v2, d, r2, dv2, e⟩, k⟩ => ⟨⟨_, v2, hx, r2, e ▸ dv2⟩, k⟩
    · exact h1.elim
  · obtain ⟨e1, xs, p, g, dv, rfl, rfl, R1, g1, hk⟩ := hR
    rw [passing_idx xs p _ dv.len] at hG
    obtain ⟨fp, wr, GG, Ff, St, W, _, st, hfp, _, _, hF, hI⟩ := hG
    rw [idx_len, ← List.length_map (as := xs.filter p) (f := g)] at W
    refine q _ e1 H1 g0 z R1 g1 hk ⟨fp, wr, GG, Ff, St, W, st, hfp, fun j u hu => ?_, hI⟩
    obtain ⟨i, hi, x, v, hx, r, d⟩ := hF j u hu
    exact ⟨g x, v, by rw [List.getElem?_map, idx_get hi, hx]; rfl, r, d⟩
/-! ### who asks for the answers -/
def vAllZ (fz : QG) : VF := fun env k => fz env fun zs e => ∃ bs : List Bool, zs = bs.map .bool ∧ k (.d (.bool (bs.all id))) e
def vAnyZ (fz : QG) : VF := fun env k => fz env fun zs e => ∃ bs : List Bool, zs = bs.map .bool ∧ k (.d (.bool (bs.any id))) e
def vSumZ (fz : QG) : VF := fun env k => fz env fun zs e => ∃ ns : List Int, zs = ns.map .int ∧ k (.d (.int ns.sum)) e
theorem all_at (bs : List Bool) : (List.range bs.length).all (fun j => (bs[j]?).getD true) = bs.all id := by
  have e : (List.range bs.length).map (fun j => (bs[j]?).getD true) = bs := by
    apply List.ext_getElem?
    intro i
    by_cases z : i < bs.length
    · rw [List.getElem?_map, List.getElem?_range z]
      simp [List.getElem?_eq_getElem z]
    · rw [List.getElem?_eq_none (by rw [List.length_map, List.length_range]; omega), List.getElem?_eq_none (by omega)]
  have q := congrArg (fun l : List Bool => l.all id) e
  simpa [List.all_map] using q
theorem any_at (bs : List Bool) : (List.range bs.length).any (fun j => (bs[j]?).getD true) = bs.any id := by
  have e : (List.range bs.length).map (fun j => (bs[j]?).getD true) = bs := by
    apply List.ext_getElem?
    intro i
    by_cases z : i < bs.length
    · rw [List.getElem?_map, List.getElem?_range z]
      simp [List.getElem?_eq_getElem z]
    · rw [List.getElem?_eq_none (by rw [List.length_map, List.length_range]; omega), List.getElem?_eq_none (by omega)]
  have q := congrArg (fun l : List Bool => l.any id) e
  simpa [List.any_map] using q
theorem sum_at (ns : List Int) : ∀ n, n ≤ ns.length → preSum (fun j => (ns[j]?).getD 0) n = (ns.take n).sum
  | 0, _ => rfl
  | n + 1, h => by
    have e : ns[n]? = some (ns[n]'(by omega)) := List.getElem?_eq_getElem _
    show preSum _ n + (ns[n]?).getD 0 = _
    rw [sum_at ns n (by omega), take_succ e, List.sum_append, e]
    show _ = _ + (_ + 0)
    rw [Int.add_zero]
    rfl
variable {P : Addr} {ge : Expr} {fz : QG} {p pos : Pos}
theorem ve_allZ (hP : P ∈ Tb) (hg : Gl X "all") (hm : X.mg "all" = none) (hb : bootBuiltins "all" = some (.builtin "all")) (h : GenV X Tb P ge fz) (he : starEach [ge] X.env = (false, eval ge X.env) :: starEach [] X.env) : VE X Tb (.Call (.Name "all" p) [ge] [] pos) (vAllZ fz) := by
  refine ⟨fun pins s σ H Q I ⟨F, O, env, k, R, hf, q⟩ => ?_⟩
  refine wpAny_Call_Name_kw (ld_blt I hg hm hb ?_)
  refine PyProof.Rows.callWith_builtin1 ?_ he (by rfl)
  rw [he]
  show wpAny _ _ (spliced ((false, eval ge X.env) :: backTo pos (starEach [] X.env))) _ _ s
  refine Calls.spliced_cons (h pins σ H s _ F O env _ I R hf fun zs e1 H1 g z R1 g1 hk hG => ?_)
  obtain ⟨bs, rfl, hk⟩ := hk
  obtain ⟨fp, wr, GG, Ff, St, W, st, _, hF, hI⟩ := hG
  rw [List.length_map] at W
  refine Calls.spliced_nil ?_
  refine call_all_walkS (W.self 0 _ _ _ st ⟨g, fp, wr, GG, _, Ff, St, fun j => (bs[j]?).getD true, rfl, W, st, ?_, fun z' mv => ?_⟩)
  · intro i u sj Qj Ej hu hQj
    obtain ⟨x, v, hx, r, d⟩ := hF i u hu
    rw [List.getElem?_map] at hx
    cases eb : bs[i]? with
    | none => rw [eb] at hx; cases hx
    | some bb =>
      rw [eb] at hx
      cases hx
      cases d
      cases r
      have hQj2 : Qj ((bs[i]?).getD true) sj := hQj
      rw [eb] at hQj2
      exact wpAny_truthy_bool hQj2
  · obtain ⟨H2, hT, J⟩ := hI z' mv
    obtain ⟨R2, g2⟩ := R1.grow (Ex.tabbed (R1.tb P hP) hT)
    rw [all_at]
    exact ⟨.bl _, H2, J, rfl, q (.d (.bool (bs.all id))) e1 _ H2 R2 (Dv.bl _) (g1.trans g2) hk⟩
theorem ve_anyZ (hP : P ∈ Tb) (hg : Gl X "any") (hm : X.mg "any" = none) (hb : bootBuiltins "any" = some (.builtin "any")) (h : GenV X Tb P ge fz) (he : starEach [ge] X.env = (false, eval ge X.env) :: starEach [] X.env) : VE X Tb (.Call (.Name "any" p) [ge] [] pos) (vAnyZ fz) := by
  refine ⟨fun pins s σ H Q I ⟨F, O, env, k, R, hf, q⟩ => ?_⟩
  refine wpAny_Call_Name_kw (ld_blt I hg hm hb ?_)
  refine PyProof.Rows.callWith_builtin1 ?_ he (by rfl)
  rw [he]
  show wpAny _ _ (spliced ((false, eval ge X.env) :: backTo pos (starEach [] X.env))) _ _ s
  refine Calls.spliced_cons (h pins σ H s _ F O env _ I R hf fun zs e1 H1 g z R1 g1 hk hG => ?_)
  obtain ⟨bs, rfl, hk⟩ := hk
  obtain ⟨fp, wr, GG, Ff, St, W, st, _, hF, hI⟩ := hG
  rw [List.length_map] at W
  refine Calls.spliced_nil ?_
  refine call_any_walkS (W.self 0 _ _ _ st ⟨g, fp, wr, GG, _, Ff, St, fun j => (bs[j]?).getD true, rfl, W, st, ?_, fun z' mv => ?_⟩)
  · intro i u sj Qj Ej hu hQj
    obtain ⟨x, v, hx, r, d⟩ := hF i u hu
    rw [List.getElem?_map] at hx
    cases eb : bs[i]? with
    | none => rw [eb] at hx; cases hx
    | some bb =>
      rw [eb] at hx
      cases hx
      cases d
      cases r
      have hQj2 : Qj ((bs[i]?).getD true) sj := hQj
      rw [eb] at hQj2
      exact wpAny_truthy_bool hQj2
  · obtain ⟨H2, hT, J⟩ := hI z' mv
    obtain ⟨R2, g2⟩ := R1.grow (Ex.tabbed (R1.tb P hP) hT)
    rw [any_at]
    exact ⟨.bl _, H2, J, rfl, q (.d (.bool (bs.any id))) e1 _ H2 R2 (Dv.bl _) (g1.trans g2) hk⟩
theorem ve_sumZ (hP : P ∈ Tb) (hg : Gl X "sum") (hm : X.mg "sum" = none) (hb : bootBuiltins "sum" = some (.builtin "sum")) (h : GenV X Tb P ge fz) (he : starEach [ge] X.env = (false, eval ge X.env) :: starEach [] X.env) : VE X Tb (.Call (.Name "sum" p) [ge] [] pos) (vSumZ fz) := by
  refine ⟨fun pins s σ H Q I ⟨F, O, env, k, R, hf, q⟩ => ?_⟩
  refine wpAny_Call_Name_kw (ld_blt I hg hm hb ?_)
  refine PyProof.Rows.callWith_builtin1 ?_ he (by rfl)
  rw [he]
  show wpAny _ _ (spliced ((false, eval ge X.env) :: backTo pos (starEach [] X.env))) _ _ s
  refine Calls.spliced_cons (h pins σ H s _ F O env _ I R hf fun zs e1 H1 g z R1 g1 hk hG => ?_)
  obtain ⟨ns, rfl, hk⟩ := hk
  obtain ⟨fp, wr, GG, Ff, St, W, st, hfp, hF, hI⟩ := hG
  rw [List.length_map] at W
  refine Calls.spliced_nil ?_
  refine call_sum_walkAnyS (W.self 0 _ _ _ st ⟨g, fp, wr, GG, _, Ff, St, fun j => (ns[j]?).getD 0, rfl, W, st, hfp, ?_, fun z' tk mv => ?_⟩)
  · intro i u hu
    obtain ⟨x, v, hx, r, d⟩ := hF i u hu
    rw [List.getElem?_map] at hx
    cases eb : ns[i]? with
    | none => rw [eb] at hx; cases hx
    | some bb =>
      rw [eb] at hx
      cases hx
      cases d
      obtain ⟨tt, rfl⟩ := r
      exact ⟨tt, by dsimp only; rw [eb]; rfl⟩
  · obtain ⟨H2, hT, J⟩ := hI z' mv
    obtain ⟨R2, g2⟩ := R1.grow (Ex.tabbed (R1.tb P hP) hT)
    rw [sum_at ns _ (Nat.le_refl _), List.take_length]
    exact ⟨.int _, H2, J, ⟨_, rfl⟩, q (.d (.int ns.sum)) e1 _ H2 R2 (Dv.int _) (g1.trans g2) hk⟩
end
end Sp
end

section
set_option maxHeartbeats 1000000
/-! not x, of whatever has a truth. -/
namespace Sp
open PySem PySem.Spec PyProof.Rows L2
section
variable {X : Cx} {Tb : List Addr} {a : Expr} {fa : VF} {pos : Pos}
def tNotL (K : PySem.W.Frag) (te : TE) : TE := fun σ H Q => te σ H fun x G => ∃ b, TruV K x G b ∧ Q (.bl (!b)) G
theorem pe_notL {te : TE} (he : PE X a te) : PE X (.UnaryOp .Not a pos) (tNotL X.K te) := by
  refine ⟨fun ps s sg G Q J h => UnaryOp_ (thn (he.run ps s sg G _ J h) fun u t ⟨x, G1, J1, r, b, hb, q⟩ => not_of ?_)⟩
  have z := tru_ok ps t sg G1 x u (fun c G2 => Q (.bl (!c)) G2) J1 r ⟨b, hb, q⟩
  exact wpAny_mono z (fun c t2 ⟨G2, J2, q2⟩ => ⟨V.bl (!c), G2, J2, rfl, q2⟩) fun _ _ e => e
def vNotT (fa : VF) : VF := fun env k => fa env fun w e1 => match lk e1 w with
  | some x => dTrue x fun b => k (.d (.bool (!b))) e1
  | none => False
theorem ve_notT (ha : VE X Tb a fa) : VE X Tb (.UnaryOp .Not a pos) (vNotT fa) :=
  PE.imp (pe_notL ha) fun σ H Q ⟨F, O, env, k, R, h, q⟩ => ⟨F, O, env, _, R, h, fun w1 e1 v1 H1 R1 rw1 g1 h1 => by
    split at h1
    · rename_i x ex
      have d := Dl.dv view_vw.toLe (R1.dl rw1 ex)
      have fin : ∀ b, k (.d (.bool (!b))) e1 → Q (.bl (!b)) H1 := fun b hb => q (.d (.bool (!b))) e1 _ H1 R1 (Dv.bl _) g1 hb
      cases d with
      | non => exact ⟨_, rfl, fin _ h1⟩
      | bl b => exact ⟨_, rfl, fin _ h1⟩
      | int i => exact ⟨_, rfl, fin _ h1⟩
      | str z => exact h1.elim
      | @lst p vs ds hp ha =>
        refine ⟨_, .inl ⟨vs, sq hp, rfl⟩, ?_⟩
        have e : (!vs.isEmpty) = !ds.isEmpty := by cases ha <;> rfl
        rw [e]
        exact fin _ h1
      | @tup p vs ds hp ha =>
        refine ⟨_, .inr (.inl ⟨vs, sqt hp, rfl⟩), ?_⟩
        have e : (!vs.isEmpty) = !ds.isEmpty := by cases ha <;> rfl
        rw [e]
        exact fin _ h1
      | @dic p vs ds hp ha =>
        refine ⟨_, .inr (.inr ⟨vs, hp, rfl⟩), ?_⟩
        have e : (!vs.isEmpty) = !ds.isEmpty := by cases ha <;> rfl
        rw [e]
        exact fin _ h1
    · exact h1.elim⟩
end
end Sp
end

section
set_option maxHeartbeats 4000000
namespace Sp
open PySem PySem.Spec PyProof.Rows L2
local macro_rules | `(tactic| decreasing_trivial_pre_omega) => `(tactic| ((try simp only [vSeq, vSeqJ, vAsg, vTell, bName, vVar, vC, vOp, vTwo, vOne, vUn, lk, vTOp, wB, vTrue, dTrue, vNot, vAnd, vOr, vAndV, vOrV, vNotV, vB, vIf, vNil, vCons, dsOf, vTup, vLst, vDs, Option.map_some, dI, dSub, dAdd, dMul, dMod, dDiv, dPow, dLt, dLe, dGt, dGe, dEq, dNe, dNeg, dIx, vNoPart, vPart, wI, vSl, dSl, dRev, lks, vCB, dLen, dAbs, dMax2, dMin2, dSum, dMax1, dMin1, dInt1, dListOf, dTupleOf, dSorted, dSortedR, vFn, vFnC, bNil, bCons, bTup, vFrz, vIfS, vRet, vDrop, vOwn, vOwnL, vPopAt, dAll, dAny, vPar, vAug, vApp, vPop, vRevM, vExt, vPut, iL, iT, iR1, iR2, iEn, iZp, vFor, vWhile, vLc, sz, vYes, vD, vChain, vTChain, vIsi, vAll, isInt, isBool, isList, isTuple, dIsN, dNotN, vTFour, vIff, vAllT, isLT, dIn, dNotin, dIs, dIsNot, vSlA, dSlA, vAugS, vTail, vKw, vCount, vTry, vCopy, vIsV, vIsVT, vIsNo, vFnX, calmF, id, vPickX, vInX, vXX, vIsW, vAllZ, vAnyZ, vSumZ, qGen1, qGen2, qLoc, qFree, qInt, qSub, qCmp, qChain, qAnd, qIx, qYes, qTCmp, vNotT, vPar3, List.mem_cons, List.not_mem_nil, List.length_cons, List.length_nil, List.getElem?_cons_zero, List.getElem?_cons_succ, List.getElem?_nil, List.set_cons_zero, List.set_cons_succ, unset, back, isOwn, env0, envC, List.map_cons, List.map_nil, List.cons_append, List.nil_append, List.replicate_succ, List.replicate_zero, Nat.reduceAdd, Nat.reduceSub, Nat.reduceLT, Nat.reduceLeDiff, Int.reduceLE, Int.reduceLT, Int.reduceNeg, Int.reduceToNat, Int.reducePow, Int.reduceAdd, Int.reduceSub, Int.reduceMul, Int.cast_ofNat_Int, Int.natCast_zero, Int.reduceEq, not_true_eq_false, not_false_eq_true, false_and, and_false, false_or, or_false, true_or, or_true, Nat.zero_add, Nat.zero_le, true_and, and_true, if_true, if_false, Bool.false_eq_true, Bool.not_true, Bool.not_false, List.all_cons, List.all_nil, Bool.and_true, Bool.true_and, decide_true, Option.getD_some, Option.getD_none, reduceCtorEq, decide_eq_true_eq, Bool.not_eq_true', decide_eq_false_iff_not]); (repeat (refine go ?_; try simp only [vSeq, vSeqJ, vAsg, vTell, bName, vVar, vC, vOp, vTwo, vOne, vUn, lk, vTOp, wB, vTrue, dTrue, vNot, vAnd, vOr, vAndV, vOrV, vNotV, vB, vIf, vNil, vCons, dsOf, vTup, vLst, vDs, Option.map_some, dI, dSub, dAdd, dMul, dMod, dDiv, dPow, dLt, dLe, dGt, dGe, dEq, dNe, dNeg, dIx, vNoPart, vPart, wI, vSl, dSl, dRev, lks, vCB, dLen, dAbs, dMax2, dMin2, dSum, dMax1, dMin1, dInt1, dListOf, dTupleOf, dSorted, dSortedR, vFn, vFnC, bNil, bCons, bTup, vFrz, vIfS, vRet, vDrop, vOwn, vOwnL, vPopAt, dAll, dAny, vPar, vAug, vApp, vPop, vRevM, vExt, vPut, iL, iT, iR1, iR2, iEn, iZp, vFor, vWhile, vLc, sz, vYes, vD, vChain, vTChain, vIsi, vAll, isInt, isBool, isList, isTuple, dIsN, dNotN, vTFour, vIff, vAllT, dIn, dNotin, dIs, dIsNot, vSlA, dSlA, vAugS, vTail, vKw, vCount, vTry, vCopy, vIsV, vIsVT, vIsNo, vFnX, calmF, id, vPickX, vInX, vXX, vIsW, vAllZ, vAnyZ, vSumZ, qGen1, qGen2, qLoc, qFree, qInt, qSub, qCmp, qChain, qAnd, qIx, qYes, qTCmp, vNotT, vPar3, List.mem_cons, List.not_mem_nil, List.length_cons, List.length_nil, List.getElem?_cons_zero, List.getElem?_cons_succ, List.getElem?_nil, List.set_cons_zero, List.set_cons_succ, unset, back, isOwn, env0, envC, List.map_cons, List.map_nil, List.cons_append, List.nil_append, List.replicate_succ, List.replicate_zero, Nat.reduceAdd, Nat.reduceSub, Nat.reduceLT, Nat.reduceLeDiff, Int.reduceLE, Int.reduceLT, Int.reduceNeg, Int.reduceToNat, Int.reducePow, Int.reduceAdd, Int.reduceSub, Int.reduceMul, Int.cast_ofNat_Int, Int.natCast_zero, Int.reduceEq, not_true_eq_false, not_false_eq_true, false_and, and_false, false_or, or_false, true_or, or_true, Nat.zero_add, Nat.zero_le, true_and, and_true, if_true, if_false, Bool.false_eq_true, Bool.not_true, Bool.not_false, List.all_cons, List.all_nil, Bool.and_true, Bool.true_and, decide_true, Option.getD_some, Option.getD_none, reduceCtorEq, decide_eq_true_eq, Bool.not_eq_true', decide_eq_false_iff_not]))))

/-! ### what may be spills or bests, of anything handed in -/
def fallsL (ns : List Int) : List Int := List.zipWith (fun a b => a - b) ns ns.tail
def risesL (ns : List Int) : List Int := List.zipWith (fun a b => b - a) ns ns.tail
def stB (ns : List Int) : Bool := ns.all (fun s => decide (1 ≤ s)) && decide (ns.Pairwise (· ≥ ·))
def unI : PyData → Int
  | .int i => i
  | _ => 0
/-- may it be spills (or bests) -/
def mirB (falling : Bool) : PyData → Bool
  | .list xs => xs.all wD && (decide ((if falling = true then (xs.map unI).getLast? else (xs.map unI).head?) = some 0) && stB (if falling = true then fallsL (xs.map unI) else risesL (xs.map unI)))
  | _ => false
theorem mirB_no {f : Bool} {d : PyData} (h : dsD d = false) : mirB f d = false := by
  cases d with
  | list xs =>
    have h : xs.all wD = false := h
    show (xs.all wD && _) = false
    rw [h]
    rfl
  | _ => rfl
theorem unI_ints (ns : List Int) : (ns.map PyData.int).map unI = ns := by
  rw [List.map_map]
  exact List.map_id' ns
theorem wD_ints2 : ∀ {xs : List PyData}, xs.all wD = true → ∃ ns : List Int, xs = ns.map .int
  | [], _ => ⟨[], rfl⟩
  | x :: xs, h => by
    rw [List.all_cons, Bool.and_eq_true] at h
    obtain ⟨ns, rfl⟩ := wD_ints2 h.2
    cases x with
    | int i => exact ⟨i :: ns, rfl⟩
    | _ => cases h.1
theorem mirB_il (f : Bool) (ns : List Int) : mirB f (il ns) = (decide ((if f = true then ns.getLast? else ns.head?) = some 0) && stB (if f = true then fallsL ns else risesL ns)) := by
  show ((ns.map PyData.int).all wD && _) = _
  rw [List.all_map, show ns.all (wD ∘ PyData.int) = true from List.all_eq_true.mpr fun _ _ => rfl, unI_ints, Bool.true_and]
theorem cut_end (r : List PyData) (q : PyData) : cutD (r ++ [q]) (some (-1)) none = [q] := by
  have e1 : HT.sIx (r ++ [q]).length (r ++ [q]).length none = (r ++ [q]).length := rfl
  have e2 : HT.sIx (r ++ [q]).length 0 (some (-1)) = r.length := by
    simp only [HT.sIx, List.length_append, List.length_singleton]
    split <;> omega
  unfold cutD
  rw [e1, e2]
  simp
theorem cut_head (q : PyData) (r : List PyData) : cutD (q :: r) none (some 1) = [q] := by
  rw [show (1 : Int) = ((1 : Nat) : Int) from rfl, cutD_to (by simp)]
  rfl
theorem cut_last (ns : List Int) : cutD (ns.map PyData.int) (some (-1)) none = ns.getLast?.toList.map .int := by
  rcases List.eq_nil_or_concat ns with rfl | ⟨r, q, rfl⟩
  · rfl
  · rw [List.concat_eq_append, List.map_append, List.map_singleton, cut_end, List.getLast?_concat]
    rfl
theorem cut_first (ns : List Int) : cutD (ns.map PyData.int) none (some 1) = ns.head?.toList.map .int := by
  cases ns with
  | nil => rfl
  | cons q r => rw [List.map_cons, cut_head]; rfl
theorem eq_edge (o : Option Int) : PyData.eqv (.list (o.toList.map .int)) (.list [.int 0]) = decide (o = some 0) := by
  rw [show (PyData.list [.int 0]) = il [0] from rfl, eqv_ilil]
  cases o with
  | none => rfl
  | some z => simp
theorem perm_falls {a b : List Int} (h : a.Perm b) (ha : a.Pairwise (· ≥ ·)) (hb : b.Pairwise (· ≥ ·)) : a = b :=
  h.eq_of_pairwise (le := (· ≥ ·)) (fun _ _ _ _ x y => Int.le_antisymm y x) ha hb
structure Xs (K : PySem.W.Frag) (mg : Str → Option Value) where
  TankError : ExK K mg "TankError"
  NoDays : ExK K mg "NoDays"
  NoCap : ExK K mg "NoCap"
  NoMany : ExK K mg "NoMany"
  NoMirror : ExK K mg "NoMirror"
  NoMost : ExK K mg "NoMost"
  TooMany : ExN mg "TooMany"
  ve : mg "ValueError" = none
  em_NoMirror : PySem.W.exmOne K (.ref NoMirror.C) (.ref TankError.C) = some true
  kv_NoMirror : PySem.W.kitOne K (.ref NoMirror.C) (.type "ValueError") = some true
  ki_NoMirror_NoMirror : PySem.W.kitOne K (.ref NoMirror.C) (.ref NoMirror.C) = some true
  ki_NoMirror_NoCap : PySem.W.kitOne K (.ref NoMirror.C) (.ref NoCap.C) = some false
  ki_NoMirror_NoDays : PySem.W.kitOne K (.ref NoMirror.C) (.ref NoDays.C) = some false
  ki_NoMirror_NoMany : PySem.W.kitOne K (.ref NoMirror.C) (.ref NoMany.C) = some false
  ki_NoMirror_NoMost : PySem.W.kitOne K (.ref NoMirror.C) (.ref NoMost.C) = some false
  ki_NoMirror_TooMany : PySem.W.kitOne K (.ref NoMirror.C) (.ref TooMany.C) = some false
  kn_NoMirror : PySem.W.kitOne K (.type "NoneType") (.ref NoMirror.C) = some false
  kn_NoCap : PySem.W.kitOne K (.type "NoneType") (.ref NoCap.C) = some false
  kn_NoDays : PySem.W.kitOne K (.type "NoneType") (.ref NoDays.C) = some false
  kn_NoMany : PySem.W.kitOne K (.type "NoneType") (.ref NoMany.C) = some false
  kn_NoMost : PySem.W.kitOne K (.type "NoneType") (.ref NoMost.C) = some false
  kn_TooMany : PySem.W.kitOne K (.type "NoneType") (.ref TooMany.C) = some false
section
variable {P : Program} {w : World} {K : PySem.W.Frag} {mg : Str → Option Value} {base : Heap} {T : Addr} {Tb : List Addr} (D : Ds K mg) (B : Blt mg) (GD : FnOk P w K mg base CX0 2 D.is_days.f D.is_days.fd ["thing"] (spDays K T)) (hT : T ∈ Tb)
include D B GD hT
abbrev c_sums_of : Fc := fun ds k => ∃ ns : List Int, ds = [il ns] ∧ ns.length ≤ 100000 ∧ ∀ ms : List Int, ms.length = ns.length + 1 → k (il ms)
theorem ok_sums_of : FnOk P w K mg base CX0 1 D.sums_of.f D.sums_of.fd ["steps"] (spD Tb c_sums_of) := by
  refine D.sums_of.F.ok sc_sums_of (fun vs H Q E h => spD_len (n := 1) h fun ds k h => ?_) (fun cdv A outer s H vs Q E hr h => run_body (N := ["steps", "told", "step"])
    (vss_cons (vs_own (ps_set (i := 1) sc_sums_of.nd rfl (Or.inl rfl) (pe_lst (va_cons ve_int va_nil))))
      (vss_cons (vs_for PassesOwn.never rfl (vi_list (ve_var (pv 0))) (vg_name (pg_name (i := 2) sc_sums_of.nd rfl (Or.inl rfl)))
        (vss_one (vs_expr (ve_app (pe_bm PySem.F.plainAttrs_list PySem.F.slot_list_append PySem.F.type_list_append mt_append (pv 1) (va_cons (ve_op ov_add (ve_ix (ve_var (pv 1)) (ve_un uv_neg ve_int)) (ve_var (pv 2))) va_nil))))))
      (vss_one (vs_ret (ve_var (pv 1)))))) h fun ds k h => ?_)
  · first | (obtain ⟨_, rfl, _⟩ := h; rfl) | (obtain ⟨_, _, rfl, _⟩ := h; rfl) | (obtain ⟨_, _, _, rfl, _⟩ := h; rfl) | (obtain ⟨_, _, _, _, rfl, _⟩ := h; rfl) | (obtain ⟨_, _, _, _, _, rfl, _⟩ := h; rfl) | (obtain ⟨_, _, _, _, _, _, rfl, _⟩ := h; rfl)
  · obtain ⟨ns, rfl, hl, hk⟩ := h
    decreasing_trivial_pre_omega
    refine ⟨fun i e => ∃ (ms : List Int) (s2 : SV), e = [.d (il ns), .o (ms.map .int), s2] ∧ ms.length = i + 1, ⟨[0], _, rfl, rfl⟩, ?_, ?_⟩
    · rintro i x e hi hx ⟨ms, s2, rfl, hm⟩
      obtain ⟨z, rfl, hz⟩ := il_at hx
      rcases List.eq_nil_or_concat ms with rfl | ⟨r, q, rfl⟩
      · cases hm
      rw [List.concat_eq_append] at *
      decreasing_trivial_pre_omega
      rw [List.map_append]
      refine ⟨_, atI_last _ _, ?_⟩
      decreasing_trivial_pre_omega
      refine ⟨lt_line (by rw [← List.map_singleton (f := PyData.int), ← List.map_append, List.length_map, hm]; rw [List.length_map] at hi; omega), (r ++ [q]) ++ [q + z], _, by rw [List.map_append, List.map_append]; rfl, by rw [List.length_append, hm]; rfl⟩
    · rintro e ⟨ms, s2, rfl, hm⟩
      decreasing_trivial_pre_omega
      exact hk ms (by rw [hm, List.length_map])
variable (XS : Xs K mg)
include XS
abbrev cx_need_steps (XS : Xs K mg) : Fx := fun ds k kx => ∃ ns : List Int, ds = [il ns] ∧ ns.length ≤ 100000 ∧ (stB ns = true → k .none) ∧ (stB ns = false → kx XS.NoMirror.C)
theorem okhX_need_steps {fa cd T3 : Addr} {kV doc pm ct oc : Value} {an od : Option Addr} {osl : Array (Option Value)} (hT3 : T3 ∈ Tb) (TB : GxR.TabB base mg cd T3)
    (lkf : K.lookup fa = some ⟨oc, od, .func (PySem.W.fnOf "need_steps" "need_steps" (defArgs s_need_steps) (defBody s_need_steps) (defScope s_need_steps) .none kV doc pm an (.ref cd) ct), osl⟩) (hc : PySem.W.codeIn K (.ref cd) "need_steps" = true) :
    FnOk P w K mg base (L2.CX P w) 1 fa (PySem.W.fnOf "need_steps" "need_steps" (defArgs s_need_steps) (defBody s_need_steps) (defScope s_need_steps) .none kV doc pm an (.ref cd) ct) ["steps"] (spX Tb (cx_need_steps XS)) := by
  refine fn_of lkf hc sc_need_steps (fun vs H Q E h => spX_len (n := 1) h fun ds k kx h => ?_) (fun A outer s H vs Q E hr h => run_bodyE (N := ["steps"])
    (vssx_one (vsx_if (PW.pt (vw_or (vt_val (ve_anyZ hT3 (by rfl) B.any (by decide +kernel) (gen_v1 hr hT3 TB rfl ⟨rfl, rfl, (by decide +kernel), rfl, rfl, (free_by (n := 0) (sc := defScope s_need_steps) rfl rfl (by decide +kernel))⟩ (ve_var (pv 0)) qt_nil (qv_cmp ci_lt (qv_loc (j := 0) rfl rfl rfl (by decide)) qv_int (nomark _)) (fun _ => rfl)) (by rfl))) (vw_or1 (vt_cmp (ov_ne hr.units) (ve_var (pv 0)) (ve_sortedR (pk_cons pe_bl pk_nil) (by rfl) B.sorted (va_cons (ve_var (pv 0)) va_nil)) (nomark _)))))
        (vssx_one (vsx_raise rfl (takes_of rfl rfl rfl rfl) XS.NoMirror.made)))) h fun ds k kx h => ?_)
  · first | (obtain ⟨_, rfl, _⟩ := h; rfl) | (obtain ⟨_, _, rfl, _⟩ := h; rfl) | (obtain ⟨_, _, _, rfl, _⟩ := h; rfl) | (obtain ⟨_, _, _, _, rfl, _⟩ := h; rfl) | (obtain ⟨_, _, _, _, _, rfl, _⟩ := h; rfl) | (obtain ⟨_, _, _, _, _, _, rfl, _⟩ := h; rfl)
  · obtain ⟨ns, rfl, hl, hk, hx⟩ := h
    decreasing_trivial_pre_omega
    refine ⟨fun _ => true, fun d => .bool (match d with | .int i => decide (i < 1) | _ => false), fun _ _ => rfl, fun x hx _ => ?_, ns.map fun i => decide (i < 1), ?_, ?_⟩
    · obtain ⟨i, _, rfl⟩ := List.mem_map.mp hx
      rfl
    · rw [List.filter_eq_self.mpr fun _ _ => rfl, List.map_map, List.map_map]
      rfl
    · cases q : (ns.map fun i => decide (i < 1)).any id with
      | true =>
        rw [if_pos rfl]
        refine hx ?_
        obtain ⟨b, hb, b1⟩ := List.any_eq_true.mp q
        obtain ⟨i, hi, rfl⟩ := List.mem_map.mp hb
        have b1 : i < 1 := of_decide_eq_true b1
        unfold stB
        have z : ns.all (fun s => decide (1 ≤ s)) = false := List.all_eq_false.mpr ⟨i, hi, by simp; omega⟩
        rw [z]
        rfl
      | false =>
        rw [if_neg (by decide)]
        have z : ns.all (fun s => decide (1 ≤ s)) = true := List.all_eq_true.mpr fun i hi => by
          have c := List.any_eq_false.mp q (decide (i < 1)) (List.mem_map.mpr ⟨i, hi, rfl⟩)
          simp at c
          simp
          omega
        refine ints_of fun ms p1 p2 => ⟨⟨shaped_il _, shaped_il _⟩, ?_⟩
        rw [eqv_ilil]
        by_cases e : ns = ms
        · rw [decide_eq_true e, if_neg (by decide)]
          subst e
          refine hk ?_
          unfold stB
          rw [z, decide_eq_true p2]
          rfl
        · rw [decide_eq_false e, if_pos rfl]
          refine hx ?_
          unfold stB
          rw [z, decide_eq_false fun h => e (perm_falls p1.symm h p2)]
          rfl
variable (H_need_steps : FnOk P w K mg base (L2.CX P w) 1 D.need_steps.f D.need_steps.fd ["steps"] (spX Tb (cx_need_steps XS)))
include H_need_steps
theorem okX_need_steps : FnOk P w K mg base (L2.CX P w) 1 D.need_steps.f D.need_steps.fd ["steps"] (spX Tb (cx_need_steps XS)) := H_need_steps
abbrev cx_falls_of_spills (XS : Xs K mg) : Fx := fun ds k kx => ∃ d, ds = [d] ∧ (∀ xs, d = .list xs → xs.length ≤ 10000) ∧ (∀ ns : List Int, d = il ns → ns.getLast? = some 0 → stB (fallsL ns) = true → k (il (fallsL ns))) ∧ (mirB true d = false → kx XS.NoMirror.C)
theorem okX_falls_of_spills : FnOk P w K mg base (L2.CX P w) 3 D.falls_of_spills.f D.falls_of_spills.fd ["told"] (spX Tb (cx_falls_of_spills XS)) := by
  let d_need_steps := D.need_steps
  have GX_need_steps := (okX_need_steps D B GD hT XS H_need_steps).mono (show 1 ≤ 2 by decide)
  let d_is_days := D.is_days
  have G_is_days := (ok_is_days D B GD hT ).mono (show 2 ≤ 2 by decide)
  refine D.falls_of_spills.F.okX sc_falls_of_spills (fun vs H Q E h => spX_len (n := 1) h fun ds k kx h => ?_) (fun cdv A outer s H vs Q E hr h => run_bodyE (N := ["told", "falls", "more", "less"])
    (vssx_cons (vsx_if (PW.pt (vw_or (vt_not (vt_val (ve_fn (pe_d d_is_days G_is_days hr (va_cons (ve_var (pv 0)) va_nil))))) (vw_or1 (vt_cmp (ov_ne hr.units) (ve_sliceA (ve_var (pv 0)) (vo_some (ve_un uv_neg ve_int)) vo_none) (ve_lst (va_cons ve_int va_nil)) (nomark _)))))
        (vssx_one (vsx_raise rfl (takes_of rfl rfl rfl rfl) XS.NoMirror.made)))
      (vssx_cons (vsx_calm (vs_setLc (ps_setLc (i := 1) (own := [("more", 2), ("less", 3)]) rfl sc_falls_of_spills.nd rfl rfl (sw_true rfl rfl rfl (by decide +kernel)) (vi_zip (pi_zip (by rfl) B.zip (va_cons (ve_var (pv 0)) (va_cons (ve_sliceA (ve_var (pv 0)) (vo_some ve_int) vo_none) va_nil)))) (blkOk_by (N := ["told", "falls", "more", "less"]) (sc := defScope s_falls_of_spills) (by decide +kernel)) (fun _ _ _ _ _ => (vg_tup (n := 2) (by rfl) (vgs_cons (vg_name (pg_name (i := 2) sc_falls_of_spills.nd rfl (Or.inl rfl))) (vgs_cons (vg_name (pg_name (i := 3) sc_falls_of_spills.nd rfl (Or.inl rfl))) vgs_nil)))) (fun _ _ _ _ _ => vts_nil) (fun _ _ _ _ _ => (ve_op ov_sub (ve_var (pv 2)) (ve_var (pv 3)))))))
        (vssx_cons (vsx_expr (vex_fn (pe_dX d_need_steps GX_need_steps (takes_of rfl rfl rfl rfl) hr (va_cons (ve_var (pv 1)) va_nil))))
          (vssx_calm (vss_one (vs_ret (ve_var (pv 1)))))))) h fun ds k kx h => ?_)
  · first | (obtain ⟨_, rfl, _⟩ := h; rfl) | (obtain ⟨_, _, rfl, _⟩ := h; rfl) | (obtain ⟨_, _, _, rfl, _⟩ := h; rfl) | (obtain ⟨_, _, _, _, rfl, _⟩ := h; rfl) | (obtain ⟨_, _, _, _, _, rfl, _⟩ := h; rfl) | (obtain ⟨_, _, _, _, _, _, rfl, _⟩ := h; rfl)
  · obtain ⟨d, rfl, hl, hk, hx⟩ := h
    decreasing_trivial_pre_omega
    refine ⟨_, rfl, ?_⟩
    decreasing_trivial_pre_omega
    cases z : dsD d with
    | false =>
      rw [if_pos rfl]
      exact hx (mirB_no z)
    | true =>
      rw [if_neg (by decide)]
      obtain ⟨ns, rfl⟩ : ∃ ns : List Int, d = il ns := by
        unfold dsD at z
        split at z
        · obtain ⟨ns, rfl⟩ := wD_ints2 z
          exact ⟨ns, rfl⟩
        · cases z
      have hl := hl _ rfl
      rw [List.length_map] at hl
      have hk := hk ns rfl
      rw [mirB_il, if_pos rfl, if_pos rfl] at hx
      decreasing_trivial_pre_omega
      rw [cut_last, eq_edge]
      refine ⟨⟨shaped_il _, shaped_il [0]⟩, ?_⟩
      by_cases c : ns.getLast? = some 0
      · rw [decide_eq_true c] at hx
        rw [decide_eq_true c, if_neg (by decide)]
        have n1 : 1 ≤ ns.length := by
          cases ns with
          | nil => cases c
          | cons q r => simp
        decreasing_trivial_pre_omega
        rw [show (1 : Int) = ((1 : Nat) : Int) from rfl, cutD_from (by rw [List.length_map]; exact n1)]
        refine lc_map2 ((fallsL ns).map .int) (by unfold fallsL; rw [List.length_map, List.length_zipWith, List.length_map, List.length_drop, List.length_map, List.length_tail]) (le_line (by rw [List.length_map]; omega)) rfl (fun q x y Z hq hx hy hZ => ?_) ?_
        · rw [List.length_map, List.length_drop, List.length_map] at hq
          have h1 : ns[q]? = some (ns[q]'(by omega)) := List.getElem?_eq_getElem _
          have h2 : ns[q + 1]? = some (ns[q + 1]'(by omega)) := List.getElem?_eq_getElem _
          unfold zipAt at hx
          rw [List.getElem?_drop, Nat.add_comm 1 q, List.getElem?_map, List.getElem?_map, h1, h2] at hx
          cases hx
          unfold fallsL at hy
          rw [List.getElem?_map, List.getElem?_zipWith, List.getElem?_tail, h1, h2] at hy
          cases hy
          decreasing_trivial_pre_omega
          exact hZ _ rfl
        decreasing_trivial_pre_omega
        refine ⟨fallsL ns, rfl, by unfold fallsL; rw [List.length_zipWith]; omega, fun st => hk c st, fun st => hx (by rw [st]; rfl)⟩
      · rw [decide_eq_false c, if_pos rfl]
        exact hx (by rw [decide_eq_false c]; rfl)
abbrev cx_rises_of_bests (XS : Xs K mg) : Fx := fun ds k kx => ∃ d, ds = [d] ∧ (∀ xs, d = .list xs → xs.length ≤ 10000) ∧ (∀ ns : List Int, d = il ns → ns.head? = some 0 → stB (risesL ns) = true → k (il (risesL ns))) ∧ (mirB false d = false → kx XS.NoMirror.C)
theorem okX_rises_of_bests : FnOk P w K mg base (L2.CX P w) 3 D.rises_of_bests.f D.rises_of_bests.fd ["told"] (spX Tb (cx_rises_of_bests XS)) := by
  let d_need_steps := D.need_steps
  have GX_need_steps := (okX_need_steps D B GD hT XS H_need_steps).mono (show 1 ≤ 2 by decide)
  let d_is_days := D.is_days
  have G_is_days := (ok_is_days D B GD hT ).mono (show 2 ≤ 2 by decide)
  refine D.rises_of_bests.F.okX sc_rises_of_bests (fun vs H Q E h => spX_len (n := 1) h fun ds k kx h => ?_) (fun cdv A outer s H vs Q E hr h => run_bodyE (N := ["told", "rises", "less", "more"])
    (vssx_cons (vsx_if (PW.pt (vw_or (vt_not (vt_val (ve_fn (pe_d d_is_days G_is_days hr (va_cons (ve_var (pv 0)) va_nil))))) (vw_or1 (vt_cmp (ov_ne hr.units) (ve_sliceA (ve_var (pv 0)) vo_none (vo_some ve_int)) (ve_lst (va_cons ve_int va_nil)) (nomark _)))))
        (vssx_one (vsx_raise rfl (takes_of rfl rfl rfl rfl) XS.NoMirror.made)))
      (vssx_cons (vsx_calm (vs_setLc (ps_setLc (i := 1) (own := [("less", 2), ("more", 3)]) rfl sc_rises_of_bests.nd rfl rfl (sw_true rfl rfl rfl (by decide +kernel)) (vi_zip (pi_zip (by rfl) B.zip (va_cons (ve_var (pv 0)) (va_cons (ve_sliceA (ve_var (pv 0)) (vo_some ve_int) vo_none) va_nil)))) (blkOk_by (N := ["told", "rises", "less", "more"]) (sc := defScope s_rises_of_bests) (by decide +kernel)) (fun _ _ _ _ _ => (vg_tup (n := 2) (by rfl) (vgs_cons (vg_name (pg_name (i := 2) sc_rises_of_bests.nd rfl (Or.inl rfl))) (vgs_cons (vg_name (pg_name (i := 3) sc_rises_of_bests.nd rfl (Or.inl rfl))) vgs_nil)))) (fun _ _ _ _ _ => vts_nil) (fun _ _ _ _ _ => (ve_op ov_sub (ve_var (pv 3)) (ve_var (pv 2)))))))
        (vssx_cons (vsx_expr (vex_fn (pe_dX d_need_steps GX_need_steps (takes_of rfl rfl rfl rfl) hr (va_cons (ve_var (pv 1)) va_nil))))
          (vssx_calm (vss_one (vs_ret (ve_var (pv 1)))))))) h fun ds k kx h => ?_)
  · first | (obtain ⟨_, rfl, _⟩ := h; rfl) | (obtain ⟨_, _, rfl, _⟩ := h; rfl) | (obtain ⟨_, _, _, rfl, _⟩ := h; rfl) | (obtain ⟨_, _, _, _, rfl, _⟩ := h; rfl) | (obtain ⟨_, _, _, _, _, rfl, _⟩ := h; rfl) | (obtain ⟨_, _, _, _, _, _, rfl, _⟩ := h; rfl)
  · obtain ⟨d, rfl, hl, hk, hx⟩ := h
    decreasing_trivial_pre_omega
    refine ⟨_, rfl, ?_⟩
    decreasing_trivial_pre_omega
    cases z : dsD d with
    | false =>
      rw [if_pos rfl]
      exact hx (mirB_no z)
    | true =>
      rw [if_neg (by decide)]
      obtain ⟨ns, rfl⟩ : ∃ ns : List Int, d = il ns := by
        unfold dsD at z
        split at z
        · obtain ⟨ns, rfl⟩ := wD_ints2 z
          exact ⟨ns, rfl⟩
        · cases z
      have hl := hl _ rfl
      rw [List.length_map] at hl
      have hk := hk ns rfl
      rw [mirB_il, if_neg (by decide), if_neg (by decide)] at hx
      decreasing_trivial_pre_omega
      rw [cut_first, eq_edge]
      refine ⟨⟨shaped_il _, shaped_il [0]⟩, ?_⟩
      by_cases c : ns.head? = some 0
      · rw [decide_eq_true c] at hx
        rw [decide_eq_true c, if_neg (by decide)]
        have n1 : 1 ≤ ns.length := by
          cases ns with
          | nil => cases c
          | cons q r => simp
        decreasing_trivial_pre_omega
        rw [show (1 : Int) = ((1 : Nat) : Int) from rfl, cutD_from (by rw [List.length_map]; exact n1)]
        refine lc_map2 ((risesL ns).map .int) (by unfold risesL; rw [List.length_map, List.length_zipWith, List.length_map, List.length_drop, List.length_map, List.length_tail]) (le_line (by rw [List.length_map]; omega)) rfl (fun q x y Z hq hx hy hZ => ?_) ?_
        · rw [List.length_map, List.length_drop, List.length_map] at hq
          have h1 : ns[q]? = some (ns[q]'(by omega)) := List.getElem?_eq_getElem _
          have h2 : ns[q + 1]? = some (ns[q + 1]'(by omega)) := List.getElem?_eq_getElem _
          unfold zipAt at hx
          rw [List.getElem?_drop, Nat.add_comm 1 q, List.getElem?_map, List.getElem?_map, h1, h2] at hx
          cases hx
          unfold risesL at hy
          rw [List.getElem?_map, List.getElem?_zipWith, List.getElem?_tail, h1, h2] at hy
          cases hy
          decreasing_trivial_pre_omega
          exact hZ _ rfl
        decreasing_trivial_pre_omega
        refine ⟨risesL ns, rfl, by unfold risesL; rw [List.length_zipWith]; omega, fun st => hk c st, fun st => hx (by rw [st]; rfl)⟩
      · rw [decide_eq_false c, if_pos rfl]
        exact hx (by rw [decide_eq_false c]; rfl)
end
end Sp
end

section
set_option maxHeartbeats 4000000
namespace Sp
open PySem PySem.Spec PyProof.Rows L2
local macro_rules | `(tactic| decreasing_trivial_pre_omega) => `(tactic| ((try simp only [vSeq, vSeqJ, vAsg, vTell, bName, vVar, vC, vOp, vTwo, vOne, vUn, lk, vTOp, wB, vTrue, dTrue, vNot, vAnd, vOr, vAndV, vOrV, vNotV, vB, vIf, vNil, vCons, dsOf, vTup, vLst, vDs, Option.map_some, dI, dSub, dAdd, dMul, dMod, dDiv, dPow, dLt, dLe, dGt, dGe, dEq, dNe, dNeg, dIx, vNoPart, vPart, wI, vSl, dSl, dRev, lks, vCB, dLen, dAbs, dMax2, dMin2, dSum, dMax1, dMin1, dInt1, dListOf, dTupleOf, dSorted, dSortedR, vFn, vFnC, bNil, bCons, bTup, vFrz, vIfS, vRet, vDrop, vOwn, vOwnL, vPopAt, dAll, dAny, vPar, vAug, vApp, vPop, vRevM, vExt, vPut, iL, iT, iR1, iR2, iEn, iZp, vFor, vWhile, vLc, sz, vYes, vD, vChain, vTChain, vIsi, vAll, isInt, isBool, isList, isTuple, dIsN, dNotN, vTFour, vIff, vAllT, isLT, dIn, dNotin, dIs, dIsNot, vSlA, dSlA, vAugS, vTail, vKw, vCount, vTry, vCopy, vIsV, vIsVT, vIsNo, vFnX, calmF, id, vPickX, vInX, vXX, vIsW, vAllZ, vAnyZ, vSumZ, qGen1, qGen2, qLoc, qFree, qInt, qSub, qCmp, qChain, qAnd, qIx, qYes, qTCmp, vNotT, vTry, vCopy, vIsV, vIsVT, vIsNo, vFnX, calmF, id, vPickX, vInX, vXX, vIsW, vAllZ, vAnyZ, vSumZ, qGen1, qGen2, qLoc, qFree, qInt, qSub, qCmp, qChain, qAnd, qIx, qYes, qTCmp, vNotT, vPar3, List.mem_cons, List.not_mem_nil, List.length_cons, List.length_nil, List.getElem?_cons_zero, List.getElem?_cons_succ, List.getElem?_nil, List.set_cons_zero, List.set_cons_succ, unset, back, isOwn, env0, envC, List.map_cons, List.map_nil, List.cons_append, List.nil_append, List.replicate_succ, List.replicate_zero, Nat.reduceAdd, Nat.reduceSub, Nat.reduceLT, Nat.reduceLeDiff, Int.reduceLE, Int.reduceLT, Int.reduceNeg, Int.reduceToNat, Int.reducePow, Int.reduceAdd, Int.reduceSub, Int.reduceMul, Int.cast_ofNat_Int, Int.natCast_zero, Int.reduceEq, not_true_eq_false, not_false_eq_true, false_and, and_false, false_or, or_false, true_or, or_true, Nat.zero_add, Nat.zero_le, true_and, and_true, if_true, if_false, Bool.false_eq_true, Bool.not_true, Bool.not_false, List.all_cons, List.all_nil, Bool.and_true, Bool.true_and, decide_true, Option.getD_some, Option.getD_none, reduceCtorEq, decide_eq_true_eq, Bool.not_eq_true', decide_eq_false_iff_not]); (repeat (refine go ?_; try simp only [vSeq, vSeqJ, vAsg, vTell, bName, vVar, vC, vOp, vTwo, vOne, vUn, lk, vTOp, wB, vTrue, dTrue, vNot, vAnd, vOr, vAndV, vOrV, vNotV, vB, vIf, vNil, vCons, dsOf, vTup, vLst, vDs, Option.map_some, dI, dSub, dAdd, dMul, dMod, dDiv, dPow, dLt, dLe, dGt, dGe, dEq, dNe, dNeg, dIx, vNoPart, vPart, wI, vSl, dSl, dRev, lks, vCB, dLen, dAbs, dMax2, dMin2, dSum, dMax1, dMin1, dInt1, dListOf, dTupleOf, dSorted, dSortedR, vFn, vFnC, bNil, bCons, bTup, vFrz, vIfS, vRet, vDrop, vOwn, vOwnL, vPopAt, dAll, dAny, vPar, vAug, vApp, vPop, vRevM, vExt, vPut, iL, iT, iR1, iR2, iEn, iZp, vFor, vWhile, vLc, sz, vYes, vD, vChain, vTChain, vIsi, vAll, isInt, isBool, isList, isTuple, dIsN, dNotN, vTFour, vIff, vAllT, dIn, dNotin, dIs, dIsNot, vSlA, dSlA, vAugS, vTail, vKw, vCount, vTry, vCopy, vIsV, vIsVT, vIsNo, vFnX, calmF, id, vPickX, vInX, vXX, vIsW, vAllZ, vAnyZ, vSumZ, qGen1, qGen2, qLoc, qFree, qInt, qSub, qCmp, qChain, qAnd, qIx, qYes, qTCmp, vNotT, vTry, vCopy, vIsV, vIsVT, vIsNo, vFnX, calmF, id, vPickX, vInX, vXX, vIsW, vAllZ, vAnyZ, vSumZ, qGen1, qGen2, qLoc, qFree, qInt, qSub, qCmp, qChain, qAnd, qIx, qYes, qTCmp, vNotT, vPar3, List.mem_cons, List.not_mem_nil, List.length_cons, List.length_nil, List.getElem?_cons_zero, List.getElem?_cons_succ, List.getElem?_nil, List.set_cons_zero, List.set_cons_succ, unset, back, isOwn, env0, envC, List.map_cons, List.map_nil, List.cons_append, List.nil_append, List.replicate_succ, List.replicate_zero, Nat.reduceAdd, Nat.reduceSub, Nat.reduceLT, Nat.reduceLeDiff, Int.reduceLE, Int.reduceLT, Int.reduceNeg, Int.reduceToNat, Int.reducePow, Int.reduceAdd, Int.reduceSub, Int.reduceMul, Int.cast_ofNat_Int, Int.natCast_zero, Int.reduceEq, not_true_eq_false, not_false_eq_true, false_and, and_false, false_or, or_false, true_or, or_true, Nat.zero_add, Nat.zero_le, true_and, and_true, if_true, if_false, Bool.false_eq_true, Bool.not_true, Bool.not_false, List.all_cons, List.all_nil, Bool.and_true, Bool.true_and, decide_true, Option.getD_some, Option.getD_none, reduceCtorEq, decide_eq_true_eq, Bool.not_eq_true', decide_eq_false_iff_not]))))

theorem stB_ge {ns : List Int} (h : stB ns = true) : (∀ s ∈ ns, 1 ≤ s) ∧ ns.Pairwise (· ≥ ·) := by
  unfold stB at h
  rw [Bool.and_eq_true, decide_eq_true_eq] at h
  exact ⟨fun s hs => of_decide_eq_true (List.all_eq_true.mp h.1 s hs), h.2⟩
section
variable {P : Program} {w : World} {K : PySem.W.Frag} {mg : Str → Option Value} {base : Heap} {T : Addr} {Tb : List Addr} (D : Ds K mg) (B : Blt mg) (GD : FnOk P w K mg base CX0 2 D.is_days.f D.is_days.fd ["thing"] (spDays K T)) (hT : T ∈ Tb)
include D B GD hT
variable {tk_MT : Tok} (mg_MOST_TOLD : mg "MOST_TOLD" = some (.int 1000 tk_MT))
include mg_MOST_TOLD
abbrev c_turned : Fc := fun ds k => ∃ ns : List Int, ds = [il ns] ∧ ns.length ≤ 10000 ∧ stB ns = true ∧ (∀ z, ns.head? = some z → z ≤ 999) ∧ ∀ ms : List Int, ms.length ≤ 999 → k (il ms)
theorem ok_turned : FnOk P w K mg base CX0 1 D.turned.f D.turned.fd ["steps"] (spD Tb c_turned) := by
  refine D.turned.F.ok sc_turned (fun vs H Q E h => spD_len (n := 1) h fun ds k h => ?_) (fun cdv A outer s H vs Q E hr h => run_body (N := ["steps", "greatest", "many", "told", "size"])
    (vss_cons (vs_set (ps_set (i := 1) sc_turned.nd rfl (Or.inl rfl) (ve_ifExp (vt_val (ve_var (pv 0))) (ve_ix (ve_var (pv 0)) ve_int) ve_int)))
      (vss_cons (vs_if (vt_cmp ov_gt (ve_op ov_add (ve_var (pv 1)) ve_int) (ve_glob (pe_glob (by rfl) mg_MOST_TOLD ⟨_, rfl⟩)) (nomark _))
        (vss_one vs_never)
        vss_nil)
      (vss_cons (vs_set (ps_set (i := 2) sc_turned.nd rfl (Or.inl rfl) (ve_callB cv_len (by rfl) B.len PySem.boot_len (va_cons (ve_var (pv 0)) va_nil))))
      (vss_cons (vs_own (ps_set (i := 3) sc_turned.nd rfl (Or.inl rfl) (pe_lst va_nil)))
      (vss_cons (vs_for PassesOwn.never rfl (vi_rng2 (pi_range2 (by rfl) B.range (va_cons ve_int (va_cons (ve_op ov_add (ve_var (pv 1)) ve_int) va_nil)))) (vg_name (pg_name (i := 4) sc_turned.nd rfl (Or.inl rfl)))
        (vss_cons (vs_while PassesOwn.never (vt_cmp ov_lt (ve_ix (ve_var (pv 0)) (ve_op ov_sub (ve_var (pv 2)) ve_int)) (ve_var (pv 4)) (nomark _))
            (vss_one (vs_aug (ps_aug (i := 2) sc_turned.nd rfl (Or.inl rfl) ve_int ip_sub))))
          (vss_one (vs_expr (ve_app (pe_bm PySem.F.plainAttrs_list PySem.F.slot_list_append PySem.F.type_list_append mt_append (pv 3) (va_cons (ve_var (pv 2)) va_nil)))))))
      (vss_one (vs_ret (ve_var (pv 3))))))))) h fun ds k h => ?_)
  · first | (obtain ⟨_, rfl, _⟩ := h; rfl) | (obtain ⟨_, _, rfl, _⟩ := h; rfl) | (obtain ⟨_, _, _, rfl, _⟩ := h; rfl) | (obtain ⟨_, _, _, _, rfl, _⟩ := h; rfl) | (obtain ⟨_, _, _, _, _, rfl, _⟩ := h; rfl) | (obtain ⟨_, _, _, _, _, _, rfl, _⟩ := h; rfl)
  · obtain ⟨ns, rfl, hl, hs, hh, hk⟩ := h
    obtain ⟨s1, s2⟩ := stB_ge hs
    have ll : (ns.map PyData.int).length = ns.length := List.length_map _
    cases ns with
    | nil =>
      decreasing_trivial_pre_omega
      rw [if_neg (by decide)]
      decreasing_trivial_pre_omega
      refine ⟨fun _ e => e = [.d (il []), .d (.int 0), .d (.int 0), .o [], .u], rfl, fun i x e hi => absurd hi (Nat.not_lt_zero i), ?_⟩
      rintro e rfl
      decreasing_trivial_pre_omega
      exact hk [] (by decide)
    | cons z ns =>
      have hz := hh z rfl
      have z1 := s1 z List.mem_cons_self
      decreasing_trivial_pre_omega
      rw [if_pos (by rfl)]
      refine ⟨_, atI_nat (j := 0) rfl, ?_⟩
      decreasing_trivial_pre_omega
      rw [if_neg (by omega)]
      decreasing_trivial_pre_omega
      refine ⟨⟨by omega, by omega⟩, fun i e => ∃ (many : Int) (ms : List Int) (s4 : SV), e = [.d (il (z :: ns)), .d (.int z), .d (.int many), .o (ms.map .int), s4] ∧ 1 ≤ many ∧ many ≤ ns.length + 1 ∧ ms.length = i, ⟨_, [], _, rfl, by omega, by rw [List.length_map]; omega, rfl⟩, ?_, ?_⟩
      · rintro i x e hi hx ⟨many, ms, s4, rfl, m1, m2, hm⟩
        obtain ⟨rfl, _⟩ := rng_at hx
        decreasing_trivial_pre_omega
        refine ⟨fun m e => ∃ many : Int, e = [.d (il (z :: ns)), .d (.int z), .d (.int many), .o (ms.map .int), .d (.int (1 + (i : Int)))] ∧ 1 ≤ many ∧ many ≤ ns.length + 1 ∧ m = many.toNat, ⟨_, many, rfl, m1, m2, rfl⟩, ?_⟩
        rintro m e ⟨many, rfl, m1, m2, rfl⟩
        decreasing_trivial_pre_omega
        obtain ⟨n, rfl⟩ : ∃ n : Nat, many = (n : Int) + 1 := ⟨(many - 1).toNat, by omega⟩
        have hn : n < (z :: ns).length := by rw [List.length_cons]; omega
        have e1 : ((z :: ns).map PyData.int)[n]? = some (.int ((z :: ns)[n]'hn)) := by rw [List.getElem?_map, List.getElem?_eq_getElem hn]; rfl
        have e1 := atI_nat e1
        rw [show (n : Int) + 1 - 1 = (n : Int) by omega]
        refine ⟨_, e1, ?_⟩
        decreasing_trivial_pre_omega
        by_cases c : (z :: ns)[n]'hn < 1 + (i : Int)
        · rw [if_pos c]
          have n0 : n ≠ 0 := fun q => by
            subst q
            have c : z < 1 + (i : Int) := c
            omega
          decreasing_trivial_pre_omega
          exact ⟨_, by omega, _, rfl, by omega, by omega, rfl⟩
        · rw [if_neg c]
          decreasing_trivial_pre_omega
          refine ⟨lt_line (by rw [List.length_map]; omega), _, ms ++ [(n : Int) + 1], _, by rw [List.map_append]; rfl, by omega, by omega, by rw [List.length_append, hm]; rfl⟩
      · rintro e ⟨many, ms, s4, rfl, m1, m2, hm⟩
        decreasing_trivial_pre_omega
        exact hk ms (by omega)
variable (XS : Xs K mg)
include XS
variable (H_need_steps : FnOk P w K mg base (L2.CX P w) 1 D.need_steps.f D.need_steps.fd ["steps"] (spX Tb (cx_need_steps XS)))
include H_need_steps
abbrev cx_bests_of (XS : Xs K mg) : Fx := fun ds k kx => ∃ d, ds = [d] ∧ (∀ xs, d = .list xs → xs.length ≤ 10000) ∧ (∀ ns : List Int, d = il ns → mirB true d = true → ∀ z, (fallsL ns).head? = some z → z ≤ 999) ∧ (mirB true d = true → ∀ ms : List Int, k (il ms)) ∧ (mirB true d = false → kx XS.NoMirror.C)
theorem okX_bests_of : FnOk P w K mg base (L2.CX P w) 4 D.bests_of.f D.bests_of.fd ["told"] (spX Tb (cx_bests_of XS)) := by
  let d_sums_of := D.sums_of
  have G_sums_of := (ok_sums_of D B GD hT ).mono (show 1 ≤ 3 by decide)
  let d_turned := D.turned
  have G_turned := (ok_turned D B GD hT mg_MOST_TOLD).mono (show 1 ≤ 3 by decide)
  let d_falls_of_spills := D.falls_of_spills
  have GX_falls_of_spills := (okX_falls_of_spills D B GD hT XS H_need_steps).mono (show 3 ≤ 3 by decide)
  refine D.bests_of.F.okX sc_bests_of (fun vs H Q E h => spX_len (n := 1) h fun ds k kx h => ?_) (fun cdv A outer s H vs Q E hr h => run_bodyE (N := ["told"])
    (vssx_one (vsx_ret (vex_in (pe_d d_sums_of G_sums_of hr (pa_cons (vex_in (pe_d d_turned G_turned hr (pa_cons (vex_fn (pe_dX d_falls_of_spills GX_falls_of_spills (takes_of rfl rfl rfl rfl) hr (va_cons (ve_var (pv 0)) va_nil))) pa_nil))) pa_nil))))) h fun ds k kx h => ?_)
  · first | (obtain ⟨_, rfl, _⟩ := h; rfl) | (obtain ⟨_, _, rfl, _⟩ := h; rfl) | (obtain ⟨_, _, _, rfl, _⟩ := h; rfl) | (obtain ⟨_, _, _, _, rfl, _⟩ := h; rfl) | (obtain ⟨_, _, _, _, _, rfl, _⟩ := h; rfl) | (obtain ⟨_, _, _, _, _, _, rfl, _⟩ := h; rfl)
  · obtain ⟨d, rfl, hl, hm, hk, hx⟩ := h
    decreasing_trivial_pre_omega
    refine ⟨d, rfl, hl, fun ns e h0 hs => ?_, hx⟩
    subst e
    have mb : mirB true (il ns) = true := by rw [mirB_il, if_pos rfl, if_pos rfl, hs, decide_eq_true h0]; rfl
    have fl : (fallsL ns).length ≤ 10000 := by
      have := hl _ rfl
      rw [List.length_map] at this
      unfold fallsL
      rw [List.length_zipWith]
      omega
    refine ⟨fallsL ns, rfl, fl, hs, hm ns rfl mb, fun ms hms => ?_⟩
    decreasing_trivial_pre_omega
    refine ⟨ms, rfl, by omega, fun ms2 _ => ?_⟩
    decreasing_trivial_pre_omega
    exact hk mb ms2
abbrev cx_spills_of (XS : Xs K mg) : Fx := fun ds k kx => ∃ d, ds = [d] ∧ (∀ xs, d = .list xs → xs.length ≤ 10000) ∧ (∀ ns : List Int, d = il ns → mirB false d = true → ∀ z, (risesL ns).head? = some z → z ≤ 999) ∧ (mirB false d = true → ∀ ms : List Int, k (il ms)) ∧ (mirB false d = false → kx XS.NoMirror.C)
theorem okX_spills_of : FnOk P w K mg base (L2.CX P w) 4 D.spills_of.f D.spills_of.fd ["told"] (spX Tb (cx_spills_of XS)) := by
  let d_turned := D.turned
  have G_turned := (ok_turned D B GD hT mg_MOST_TOLD).mono (show 1 ≤ 3 by decide)
  let d_rises_of_bests := D.rises_of_bests
  have GX_rises_of_bests := (okX_rises_of_bests D B GD hT XS H_need_steps).mono (show 3 ≤ 3 by decide)
  let d_sums_of := D.sums_of
  have G_sums_of := (ok_sums_of D B GD hT ).mono (show 1 ≤ 3 by decide)
  refine D.spills_of.F.okX sc_spills_of (fun vs H Q E h => spX_len (n := 1) h fun ds k kx h => ?_) (fun cdv A outer s H vs Q E hr h => run_bodyE (N := ["told", "falls"])
    (vssx_cons (vsx_set (ps_set (i := 1) sc_spills_of.nd rfl (Or.inl rfl) (vex_in (pe_d d_turned G_turned hr (pa_cons (vex_fn (pe_dX d_rises_of_bests GX_rises_of_bests (takes_of rfl rfl rfl rfl) hr (va_cons (ve_var (pv 0)) va_nil))) pa_nil)))))
      (vssx_calm (vss_one (vs_ret (ve_revL (ve_fn (pe_d d_sums_of G_sums_of hr (va_cons (ve_revL (ve_var (pv 1))) va_nil)))))))) h fun ds k kx h => ?_)
  · first | (obtain ⟨_, rfl, _⟩ := h; rfl) | (obtain ⟨_, _, rfl, _⟩ := h; rfl) | (obtain ⟨_, _, _, rfl, _⟩ := h; rfl) | (obtain ⟨_, _, _, _, rfl, _⟩ := h; rfl) | (obtain ⟨_, _, _, _, _, rfl, _⟩ := h; rfl) | (obtain ⟨_, _, _, _, _, _, rfl, _⟩ := h; rfl)
  · obtain ⟨d, rfl, hl, hm, hk, hx⟩ := h
    decreasing_trivial_pre_omega
    refine ⟨d, rfl, hl, fun ns e h0 hs => ?_, hx⟩
    subst e
    have mb : mirB false (il ns) = true := by rw [mirB_il, if_neg (by decide), if_neg (by decide), hs, decide_eq_true h0]; rfl
    have fl : (risesL ns).length ≤ 10000 := by
      have := hl _ rfl
      rw [List.length_map] at this
      unfold risesL
      rw [List.length_zipWith]
      omega
    refine ⟨risesL ns, rfl, fl, hs, hm ns rfl mb, fun ms hms => ?_⟩
    decreasing_trivial_pre_omega
    refine ⟨ms.reverse, by show [PyData.list _] = [PyData.list (List.map PyData.int ms.reverse)]; rw [List.map_reverse], by rw [List.length_reverse]; omega, fun ms2 _ => ?_⟩
    decreasing_trivial_pre_omega
    rw [← List.map_reverse]
    exact hk mb _
abbrev cx_days_of (XS : Xs K mg) : Fx := fun ds k kx => ∃ d, ds = [d] ∧ (∀ xs, d = .list xs → xs.length ≤ 10000) ∧ (mirB false d = true → ∀ ms : List Int, k (il ms)) ∧ (mirB false d = false → kx XS.NoMirror.C)
omit mg_MOST_TOLD in
theorem okX_days_of : FnOk P w K mg base (L2.CX P w) 4 D.days_of.f D.days_of.fd ["told"] (spX Tb (cx_days_of XS)) := by
  let d_rises_of_bests := D.rises_of_bests
  have GX_rises_of_bests := (okX_rises_of_bests D B GD hT XS H_need_steps).mono (show 3 ≤ 3 by decide)
  refine D.days_of.F.okX sc_days_of (fun vs H Q E h => spX_len (n := 1) h fun ds k kx h => ?_) (fun cdv A outer s H vs Q E hr h => run_bodyE (N := ["told", "days", "rise"])
    (vssx_cons (vsx_calm (vs_own (ps_set (i := 1) sc_days_of.nd rfl (Or.inl rfl) (pe_lst va_nil))))
      (vssx_cons (vsx_for (passes_of rfl) rfl (vex_fn (pe_dX d_rises_of_bests GX_rises_of_bests (takes_of rfl rfl rfl rfl) hr (va_cons (ve_var (pv 0)) va_nil))) (vg_name (pg_name (i := 2) sc_days_of.nd rfl (Or.inl rfl)))
          (vss_cons (vs_if (vt_val (ve_var (pv 1)))
              (vss_one (vs_expr (ve_app (pe_bm PySem.F.plainAttrs_list PySem.F.slot_list_append PySem.F.type_list_append mt_append (pv 1) (va_cons (ve_op ov_sub (ve_un uv_neg ve_int) (ve_ix (ve_var (pv 0)) (ve_un uv_neg ve_int))) va_nil)))))
              vss_nil)
            (vss_one (vs_expr (ve_app (pe_bm PySem.F.plainAttrs_list PySem.F.slot_list_append PySem.F.type_list_append mt_append (pv 1) (va_cons (ve_var (pv 2)) va_nil)))))))
        (vssx_calm (vss_one (vs_ret (ve_var (pv 1))))))) h fun ds k kx h => ?_)
  · first | (obtain ⟨_, rfl, _⟩ := h; rfl) | (obtain ⟨_, _, rfl, _⟩ := h; rfl) | (obtain ⟨_, _, _, rfl, _⟩ := h; rfl) | (obtain ⟨_, _, _, _, rfl, _⟩ := h; rfl) | (obtain ⟨_, _, _, _, _, rfl, _⟩ := h; rfl) | (obtain ⟨_, _, _, _, _, _, rfl, _⟩ := h; rfl)
  · obtain ⟨d, rfl, hl, hk, hx⟩ := h
    decreasing_trivial_pre_omega
    refine ⟨d, rfl, hl, fun ns e h0 hs => ?_, hx⟩
    subst e
    have mb : mirB false (il ns) = true := by rw [mirB_il, if_neg (by decide), if_neg (by decide), hs, decide_eq_true h0]; rfl
    have hl := hl _ rfl
    rw [List.length_map] at hl
    have fl : (risesL ns).length ≤ 10000 := by
      unfold risesL
      rw [List.length_zipWith]
      omega
    obtain ⟨r, q, rfl⟩ : ∃ r q, ns = r ++ [q] := by
      rcases List.eq_nil_or_concat ns with rfl | ⟨r, q, rfl⟩
      · cases h0
      · exact ⟨r, q, by rw [List.concat_eq_append]⟩
    decreasing_trivial_pre_omega
    refine ⟨fun i e => ∃ (ms : List Int) (s2 : SV), e = [.d (il (r ++ [q])), .o (ms.map .int), s2] ∧ ms.length ≤ 2 * i, ⟨[], _, rfl, by decide⟩, ?_, ?_⟩
    · rintro i x e hi hx ⟨ms, s2, rfl, hm⟩
      obtain ⟨z, rfl, hz⟩ := il_at hx
      rw [List.length_map] at hi
      decreasing_trivial_pre_omega
      by_cases c : (ms.map PyData.int).isEmpty = false
      · rw [if_pos c, List.map_append]
        refine ⟨_, atI_last _ _, ?_⟩
        decreasing_trivial_pre_omega
        refine ⟨lt_line (by rw [List.length_map]; omega), ?_⟩
        decreasing_trivial_pre_omega
        refine ⟨lt_line (by rw [List.length_append, List.length_map]; show ms.length + 1 ≤ 2000000; omega), ms ++ [-1 - q, z], _, by rw [List.map_append, List.append_assoc]; rfl, by rw [List.length_append]; show ms.length + 2 ≤ _; omega⟩
      · rw [if_neg c]
        decreasing_trivial_pre_omega
        refine ⟨lt_line (by rw [List.length_map]; omega), ms ++ [z], _, by rw [List.map_append]; rfl, by rw [List.length_append]; show ms.length + 1 ≤ _; omega⟩
    · rintro e ⟨ms, s2, rfl, hm⟩
      decreasing_trivial_pre_omega
      exact hk mb ms
end
end Sp
end

section
set_option maxHeartbeats 1000000
/-! repr of data, where no repr goes on. -/
namespace Sp
open PySem PySem.Spec PyProof.Rows L2
theorem Room.u66 {k : Nat} {A : Around} (r : L2.Room k A) : A.units + 66 < cLine := by have := r.un; omega
section
variable {X : Cx} {Tb : List Addr}
/-- repr, where no repr goes on -/
def dRepr : DFn
  | [.list xs], k => (PyData.canLay0 (.list xs) = true ∧ PyData.showable (.list xs) = true ∧ PyData.depth (.list xs) ≤ 64 ∧ (PyData.shown (.list xs)).length ≤ sizeLine) ∧ k (.str (PyData.shown (.list xs)))
  | [.tuple xs], k => (PyData.canLay0 (.tuple xs) = true ∧ PyData.showable (.tuple xs) = true ∧ PyData.depth (.tuple xs) ≤ 64 ∧ (PyData.shown (.tuple xs)).length ≤ sizeLine) ∧ k (.str (PyData.shown (.tuple xs)))
  | _, _ => False
theorem cv_repr (hgd : X.A.guards = some []) (hu : X.A.units + 66 < cLine) : CallV X (.builtin "repr") dRepr := ⟨_, call_reprD hgd hu, fun G H vs xs k Q w d o q => by
  unfold dRepr at o
  split at o
  · obtain ⟨v, rfl, d1⟩ := d.one
    obtain ⟨⟨o1, o2, o3, o4⟩, o5⟩ := o
    obtain ⟨p, vs, rfl, hp, dv⟩ := d1.list w
    exact ⟨p, _, rfl, Dv.dp _ _ o1 (Dl.dv w.toLe d1), o2, PyData.hasDict_of_canLay _ o1, o3, o4, q _ _ _ o5 (resF fun _ => .str _)⟩
  · obtain ⟨v, rfl, d1⟩ := d.one
    obtain ⟨⟨o1, o2, o3, o4⟩, o5⟩ := o
    obtain ⟨p, vs, rfl, hp, dv⟩ := d1.tuple w
    exact ⟨p, _, rfl, Dv.dp _ _ o1 (Dl.dv w.toLe d1), o2, PyData.hasDict_of_canLay _ o1, o3, o4, q _ _ _ o5 (resF fun _ => .str _)⟩
  · exact o.elim⟩
end
end Sp
end

section
set_option maxHeartbeats 2000000
/-! As SpGuard's end; the dict of the loaded modules stands in the ground. -/
namespace Sp
open PySem PySem.Spec PyProof.Rows L2
def SysB (base : Heap) : Prop := ∃ o : Obj, base.get? sysModules = some o
open PySem.W PySem.Calls
def LawAtM (l : PySem.W.OpenLaw) (w : World) (K : PySem.W.Frag) (k n : Nat) (x : Str) (mg : Str → Option Value) (fa : Addr) (h : Heap) : Prop :=
  ∃ (fd : FuncData) (cs : List (Addr × Addr)) (sp : Sp), (∀ p ∈ cs, h.get? p.2 = some { cls := .none, data := .fields #[] }) ∧ (∀ p ∈ cs, K.lookup p.2 = none) ∧ (∀ p ∈ cs, PySem.W.CodeHd h p.1 p.2) ∧ (∀ (s : Shared) (u : Value), BindsTo s fd ⟨[u], []⟩ [(x, u)]) ∧
    (∀ (H : Hp) (a : Addr) (ns : List Int), ns.length ≤ n → (∀ z ∈ ns, Builtin.Int.intBits z ≤ 1048576) → (∀ p ∈ cs, H p.2 = some (.tbl #[])) → SqL K H a (ns.map V.int) → sp [.ref a] H (fun v _ => v = .bl true) E0) ∧
    ∀ base : Heap, K.In base → base.Ns mainGlobals mg → (∀ p ∈ cs, LamX.TabB base mg p.1 p.2) → SysB base → FnG l.prog w K mg base k fa fd [x] sp
theorem walk_tabsM {l : PySem.W.OpenLaw} {n k : Nat} {q : Program} {loose : List Str} {XP : (Str → Option Value) → Heap → Prop} {YP : World → Heap → Prop} {d : DefRec} {K : Params → PySem.W.Frag} {x : Str}
    (hq : importsNone q = true) (hn : l.most = some n) (hn2 : n ≤ sizeLine) (hdf : d.params.defaults = []) (room : L2.Room k callerA) (hY : ∀ (w : World) (h : Heap), YP w h → (K w.params).In h)
    (F : ∀ (w : World) (mg : Str → Option Value) (fa : Addr) (h : Heap), (K w.params).In h → h.Ns mainGlobals mg → mg d.name = some (.ref fa) → TabsOf q mg h → LawAtM l w (K w.params) k n x mg fa h) :
    PySem.W.WalkO q loose XP YP l.row.toRowW d [] (fun f vs => PySem.call f vs) := by
  refine Att.attach_callB hn hdf fun w _ s mg mb fa _ _ _ _ a vs ns Gd Yh _ _ _ hmg hobj hints hlen hbits hg => ?_
  have KX := hY w _ Yh
  have T : TabsOf q mg s.heap := fun nm f hr hm => by
    obtain ⟨r, rm, rn⟩ := List.any_eq_true.mp hr
    obtain ⟨a, o, fd, c, P, t1, t2, t3, t4, t5, t6⟩ := Gd.T.tab r rm
    rw [beq_iff_eq.mp rn, hm] at t1
    cases t1
    exact ⟨o, fd, c, P, t2, t3, t4, PySem.W.CodeHd.of t5 t6, t6⟩
  obtain ⟨fd, cs, sp, c1, c2, c3, c4, c5, c6⟩ := F w mg fa _ KX Gd.T.g hmg T
  obtain ⟨H, base, g1, g2, g3, g4, g5, g6, g8, g7⟩ := ground (P := l.prog) (w := w) KX Gd.T.g Gd.T.b Gd.T.builtins Gd.T.nolimit hg c1 c2 c3 Gd.T.bmain hobj hints (Nat.le_trans hlen hn2)
  have sb : SysB base := by
    obtain ⟨mm, ⟨o, es, ep, e, d, _⟩, _⟩ := (Gd.T.seer hq).mods
    exact ⟨o, g8 _ o e (fun xs n z => by rw [d] at z; cases z) fun z => by rw [d] at z; cases z⟩
  refine codeAny_mono ((c6 base g1 g2 g3 sb).run callerA [] s H ⟨[.ref a], []⟩ [.ref a] [.ref a] _ _ rfl room g6 (c4 s (.ref a)) (.cons rfl .nil) (c5 H a ns hlen hbits g4 g5)) fun r s' h => ?_
  cases r with
  | error e => exact h.elim
  | ok fl =>
    cases fl with
    | next => exact h.elim
    | brk => exact h.elim
    | cont => exact h.elim
    | ret u =>
      obtain ⟨rfl, h2⟩ := g7 u s' h
      exact ⟨rfl, h2⟩
end Sp
end

section
set_option maxHeartbeats 1000000
/-! repr and str of any datum, dicts too. -/
namespace Sp
open PySem PySem.Spec PyProof.Rows L2
section
variable {X : Cx} {pins : List (Addr × Obj)} {σ : L2.St} {H : Hp} {s : Shared}
theorem sys_free (I : Inv X pins σ H s) (h : SysB X.base) : H sysModules = none := by
  obtain ⟨o, e⟩ := h
  exact (I.bs _ o e).2
theorem key_reads {k : Key} {u : Value} (h : keyIs k u = true) : Reads s.heap u (kD k) [] := by
  rcases keyIs_shape h with ⟨i, t, rfl, rfl⟩ | ⟨x, t, rfl, rfl⟩
  · exact .int i t
  · exact .str x t
mutual
/-- what a datum's value reads in the machine's heap -/
theorem Dv.rd (I : Inv X pins σ H s) (n : H sysModules = none) : ∀ (d : PyData) (v : V) (u : Value), Dv H v d → RelV v u → ∃ as, Reads s.heap u d as ∧ sysModules ∉ as
  | .none, _, _, .non, r => by
    cases r
    exact ⟨[], .none, List.not_mem_nil⟩
  | .bool b, _, _, .bl _, r => by
    cases r
    exact ⟨[], .bool b, List.not_mem_nil⟩
  | .int i, _, _, .int _, ⟨t, r⟩ => by
    cases r
    exact ⟨[], .int i t, List.not_mem_nil⟩
  | .str z, _, _, .str _, ⟨t, r⟩ => by
    cases r
    exact ⟨[], .str z t, List.not_mem_nil⟩
  | .list ds, _, _, @Dv.lst _ a vs _ e dv, r => by
    cases r
    obtain ⟨_, its, m, rv, g⟩ := (show ObjOk X.prog X.w H s.heap a (.lst vs) from I.hok a _ e)
    obtain ⟨as, q, na⟩ := DvA.rd I n ds vs its dv rv
    refine ⟨a :: as, .list g rfl rfl (by rw [List.toList_toArray]; exact q), fun z => ?_⟩
    rcases List.mem_cons.mp z with z | z
    · rw [← z, n] at e
      cases e
    · exact na z
  | .tuple ds, _, _, @Dv.tup _ a vs _ e dv, r => by
    cases r
    obtain ⟨_, its, rv, o, g1, g2, m, g3⟩ := (show ObjOk X.prog X.w H s.heap a (.tup vs) from I.hok a _ e)
    obtain ⟨as, q, na⟩ := DvA.rd I n ds vs its dv rv
    exact ⟨as, .tuple g1 g2 g3 (by rw [List.toList_toArray]; exact q), na⟩
  | .dict ds, _, _, @Dv.dic _ a kvs _ e dv, r => by
    cases r
    obtain ⟨_, g0, us, kv, o, es, ep, g1, g2, g3, _, pr, _⟩ := (show ObjOk X.prog X.w H s.heap a (.dK kvs) from I.hok a _ e)
    obtain ⟨bs, q1, q2, nb⟩ := DvK.rd I n ds kvs us es.toList dv kv pr
    refine ⟨a :: [] ++ bs, .dict g1 g2.1 g3 q1 q2, fun z => ?_⟩
    rcases List.mem_cons.mp z with z | z
    · rw [z] at g0
      simp at g0
    · exact nb z
theorem DvA.rd (I : Inv X pins σ H s) (n : H sysModules = none) : ∀ (ds : List PyData) (vs : List V) (us : List Value), DvA H vs ds → Vals vs us → ∃ as, ReadsAll s.heap us ds as ∧ sysModules ∉ as
  | [], _, _, .nil, .nil => ⟨[], .nil, List.not_mem_nil⟩
  | d :: ds, _, _, .cons h t, .cons r q => by
    obtain ⟨as, a1, a2⟩ := Dv.rd I n d _ _ h r
    obtain ⟨bs, b1, b2⟩ := DvA.rd I n ds _ _ t q
    exact ⟨as ++ bs, .cons a1 b1, fun z => (List.mem_append.mp z).elim a2 b2⟩
theorem DvK.rd (I : Inv X pins σ H s) (n : H sysModules = none) : ∀ (ds : List (PyData × PyData)) (kvs : List (Key × V)) (us : List (Key × Value)) (es : List DictEntry), DvK H kvs ds → KV kvs us → Pairs (mixKind X.prog X.w) es us →
    ∃ bs, ReadsAll s.heap (es.map (·.key)) (ds.map (·.1)) [] ∧ ReadsAll s.heap (es.map (·.val)) (ds.map (·.2)) bs ∧ sysModules ∉ bs
  | [], _, _, _, .nil, .nil, .nil => ⟨[], .nil, .nil, List.not_mem_nil⟩
  | (_, d) :: ds, _, _, _, .cons h t, .cons r q, .cons k e p => by
    obtain ⟨as, a1, a2⟩ := Dv.rd I n d _ _ h r.2
    obtain ⟨bs, b1, b2, b3⟩ := DvK.rd I n ds _ _ _ t q p
    refine ⟨as ++ bs, ?_, ?_, fun z => (List.mem_append.mp z).elim a2 b3⟩
    · have z := key_reads (s := s) k
      rw [← r.1] at z
      exact ReadsAll.cons z b1
    · rw [List.map_cons, e]
      exact ReadsAll.cons a1 b2
end
/-- repr of any datum -/
theorem call_reprA (hm : SysB X.base) (hgd : X.A.guards = some []) (hu : X.A.units + 66 < cLine) : CallR X (.builtin "repr") (fun xs H Q => ∃ v d, xs = [v] ∧ Dv H v d ∧ d.showable = true ∧ d.depth ≤ 64 ∧ d.shown.length ≤ sizeLine ∧ Q (.str d.shown) H) := by
  intro pins s σ H xs us Q I r h
  obtain ⟨v, d, rfl, hd, h1, h2, h3, q⟩ := h
  obtain ⟨u, rfl, ru⟩ := vals1 r
  obtain ⟨as, rd, nas⟩ := Dv.rd I (sys_free I hm) d v u hd ru
  have fin : ∀ {h' : Heap} {t : Tok} {tk : Nat}, (∀ b o, s.heap.get? b = some o → h'.get? b = some o) → EP X pins σ Q (.str d.shown t) { s with heap := h', toks := tk } := fun {h' t tk} k => ⟨.str d.shown, H, I.kept k, ⟨t, rfl⟩, q⟩
  cases rd with
  | none => exact P.repr_of_none (fin fun _ _ z => z)
  | bool b => exact P.repr_of_bool (fin (fun _ _ z => z))
  | int i t => exact P.repr_of_int (by simpa only [PyData.showable, decide_eq_true_eq] using h1) (fin fun _ _ z => z)
  | str x t => exact P.repr_of_str (fin fun _ _ z => z) h3
  | list e1 e2 e3 e4 => exact repr_of_reads' (.list e1 e2 e3 e4) h1 (fun _ => nas) hgd (by omega) (fun _ _ e => e) (fun h' t tk k => fin k) h3
  | tuple e1 e2 e3 e4 => exact repr_of_reads' (.tuple e1 e2 e3 e4) h1 (fun _ => nas) hgd (by omega) (fun _ _ e => e) (fun h' t tk k => fin k) h3
  | dict e1 e2 e3 e4 e5 => exact repr_of_reads' (.dict e1 e2 e3 e4 e5) h1 (fun _ => nas) hgd (by omega) (fun _ _ e => e) (fun h' t tk k => fin k) h3

/-- str of any datum -/
def strD : PyData → Str
  | .str z => z
  | d => d.shown
theorem call_strA (hm : SysB X.base) (hgd : X.A.guards = some []) (hu : X.A.units + 68 < cLine) : CallR X (.type "str") (fun xs H Q => ∃ v d, xs = [v] ∧ Dv H v d ∧ d.showable = true ∧ d.depth ≤ 64 ∧ d.shown.length ≤ sizeLine ∧ Q (.str (strD d)) H) := by
  intro pins s σ H xs us Q I r h
  obtain ⟨v, d, rfl, hd, h1, h2, h3, q⟩ := h
  obtain ⟨u, rfl, ru⟩ := vals1 r
  obtain ⟨as, rd, nas⟩ := Dv.rd I (sys_free I hm) d v u hd ru
  cases rd with
  | none => exact P.str_of_none ⟨.str _, H, I.kept fun _ _ z => z, ⟨_, rfl⟩, q⟩
  | bool b => exact P.str_of_bool ⟨.str _, H, I.kept fun _ _ z => z, ⟨_, rfl⟩, q⟩
  | int i t => exact P.str_of_int (by simpa only [PyData.showable, decide_eq_true_eq] using h1) ⟨.str _, H, I.kept fun _ _ z => z, ⟨_, rfl⟩, q⟩
  | str x t => exact P.str_of_str ⟨.str _, H, I, ⟨_, rfl⟩, q⟩
  | list e1 e2 e3 e4 => exact str_of_reads (.list e1 e2 e3 e4) h1 (fun _ => nas) hgd (by omega) (fun _ _ e => e) (fun h' t tk k => ⟨.str _, H, I.kept k, ⟨_, rfl⟩, q⟩) h3
  | tuple e1 e2 e3 e4 => exact str_of_reads (.tuple e1 e2 e3 e4) h1 (fun _ => nas) hgd (by omega) (fun _ _ e => e) (fun h' t tk k => ⟨.str _, H, I.kept k, ⟨_, rfl⟩, q⟩) h3
  | dict e1 e2 e3 e4 e5 => exact str_of_reads (.dict e1 e2 e3 e4 e5) h1 (fun _ => nas) hgd (by omega) (fun _ _ e => e) (fun h' t tk k => ⟨.str _, H, I.kept k, ⟨_, rfl⟩, q⟩) h3
/-! a list beside an empty one -/
def rNil (f : Bool → Bool) : R2 := fun x y H Q => ∃ a b xs, x = .ref a ∧ y = .ref b ∧ H a = some (.lst xs) ∧ H b = some (.lst []) ∧ Q (.bl (f xs.isEmpty)) H
theorem lst_at {a : Addr} {xs : List V} (I : Inv X pins σ H s) (h : H a = some (.lst xs)) : ∃ (its : List Value) (n : Nat), its.length = xs.length ∧ s.heap.get? a = some { cls := .type "list", data := .seq its.toArray n } := by
  obtain ⟨_, its, n, rv, e⟩ := (show ObjOk X.prog X.w H s.heap a (.lst xs) from I.hok a _ h)
  exact ⟨its, n, rv.length.symm, e⟩
theorem op_eqNil (hu : X.A.units < cLine) : OpR X (compareOp .Eq) (rNil id) := by
  intro pins s σ H x y v u Q I rx ry h
  obtain ⟨a, b, xs, rfl, rfl, ha, hb, q⟩ := h
  cases rx
  cases ry
  obtain ⟨i1, n1, l1, g1⟩ := lst_at I ha
  obtain ⟨i2, n2, l2, g2⟩ := lst_at I hb
  have z2 : i2 = [] := List.eq_nil_of_length_eq_zero (l2.trans rfl)
  subst z2
  cases xs with
  | nil =>
    have z1 : i1 = [] := List.eq_nil_of_length_eq_zero l1
    subst z1
    exact P.eq_list (e := fun _ => true) g1 g2 rfl (fun j h1 _ => absurd h1 (Nat.not_lt_zero j)) hu ⟨.bl true, H, I, rfl, q⟩
  | cons x xs => exact P.eq_list_lengths g1 g2 (by simp [l1]) hu ⟨.bl false, H, I, rfl, q⟩
theorem op_neNil (hu : X.A.units < cLine) : OpR X (compareOp .NotEq) (rNil not) := by
  intro pins s σ H x y v u Q I rx ry h
  obtain ⟨a, b, xs, rfl, rfl, ha, hb, q⟩ := h
  cases rx
  cases ry
  obtain ⟨i1, n1, l1, g1⟩ := lst_at I ha
  obtain ⟨i2, n2, l2, g2⟩ := lst_at I hb
  have z2 : i2 = [] := List.eq_nil_of_length_eq_zero (l2.trans rfl)
  subst z2
  cases xs with
  | nil =>
    have z1 : i1 = [] := List.eq_nil_of_length_eq_zero l1
    subst z1
    exact SeqAt.RcNeAt.lists (e := fun _ => true) ⟨_, g1, rfl, n1, rfl⟩ ⟨_, g2, rfl, n2, rfl⟩ rfl hu (fun j h1 _ => absurd h1 (Nat.not_lt_zero j)) _ _ _ _ ⟨.bl false, H, I, rfl, q⟩
  | cons x xs =>
    exact SeqAt.RcNeAt.lists_lengths ⟨_, g1, rfl, n1, rfl⟩ ⟨_, g2, rfl, n2, rfl⟩ (by simp [l1]) hu _ _ _ _ ⟨.bl true, H, I, rfl, q⟩
end
section
variable {X : Cx} {Tb : List Addr}
def dEqNil : DOp
  | .list xs, .list [], k => k (.bool xs.isEmpty)
  | _, _, _ => False
def dNeNil : DOp
  | .list xs, .list [], k => k (.bool (!xs.isEmpty))
  | _, _, _ => False
theorem dvA_isEmpty {G : Hp} {vs : List V} {ds : List PyData} (h : DvA G vs ds) : vs.isEmpty = ds.isEmpty := by cases h <;> rfl
theorem ov_eqNil (hu : X.A.units < cLine) : OpV X (compareOp .Eq) dEqNil := ⟨_, op_eqNil hu, fun G H v1 v2 x y k Q w d1 d2 o q => by
  unfold dEqNil at o
  split at o
  · obtain ⟨a, us, rfl, ha, da⟩ := d1.list w
    obtain ⟨b, vs, rfl, hb, db⟩ := d2.list w
    cases db
    refine ⟨a, b, us, rfl, rfl, ha, hb, ?_⟩
    rw [id, dvA_isEmpty da]
    exact q _ _ _ o (resF fun _ => .bl _)
  · exact o.elim⟩
theorem ov_neNil (hu : X.A.units < cLine) : OpV X (compareOp .NotEq) dNeNil := ⟨_, op_neNil hu, fun G H v1 v2 x y k Q w d1 d2 o q => by
  unfold dNeNil at o
  split at o
  · obtain ⟨a, us, rfl, ha, da⟩ := d1.list w
    obtain ⟨b, vs, rfl, hb, db⟩ := d2.list w
    cases db
    refine ⟨a, b, us, rfl, rfl, ha, hb, ?_⟩
    rw [dvA_isEmpty da]
    exact q _ _ _ o (resF fun _ => .bl _)
  · exact o.elim⟩
def dReprA : DFn
  | [d], k => (d.showable = true ∧ d.depth ≤ 64 ∧ d.shown.length ≤ sizeLine) ∧ k (.str d.shown)
  | _, _ => False
theorem cv_reprA (hm : SysB X.base) (hgd : X.A.guards = some []) (hu : X.A.units + 66 < cLine) : CallV X (.builtin "repr") dReprA := ⟨_, call_reprA hm hgd hu, fun G H vs xs k Q w d o q => by
  unfold dReprA at o
  split at o
  · obtain ⟨v, rfl, d1⟩ := d.one
    obtain ⟨⟨o1, o2, o3⟩, o4⟩ := o
    exact ⟨v, _, rfl, d1.dv w.toLe, o1, o2, o3, q _ _ _ o4 (resF fun _ => .str _)⟩
  · exact o.elim⟩
def dStrA : DFn
  | [d], k => (d.showable = true ∧ d.depth ≤ 64 ∧ d.shown.length ≤ sizeLine) ∧ k (.str (strD d))
  | _, _ => False
theorem cv_strA (hm : SysB X.base) (hgd : X.A.guards = some []) (hu : X.A.units + 68 < cLine) : CallV X (.type "str") dStrA := ⟨_, call_strA hm hgd hu, fun G H vs xs k Q w d o q => by
  unfold dStrA at o
  split at o
  · obtain ⟨v, rfl, d1⟩ := d.one
    obtain ⟨⟨o1, o2, o3⟩, o4⟩ := o
    exact ⟨v, _, rfl, d1.dv w.toLe, o1, o2, o3, q _ _ _ o4 (resF fun _ => .str _)⟩
  · exact o.elim⟩
theorem Room.u68 {k : Nat} {A : Around} (r : L2.Room k A) : A.units + 68 < cLine := by have := r.un; omega
theorem Room.u0 {k : Nat} {A : Around} (r : L2.Room k A) : A.units < cLine := by have := r.un; omega
/-! ### what repr can write, dicts too -/
structure Shw (n b : Nat) (d : PyData) : Prop where
  sh : d.showable = true
  lf : d.leavesShort 600 = true
  dp : d.depth ≤ n
  bk : d.bulk ≤ b
theorem Shw.mono {n b m c : Nat} {d : PyData} (h : Shw n b d) (h1 : n ≤ m) (h2 : b ≤ c) : Shw m c d := ⟨h.sh, h.lf, Nat.le_trans h.dp h1, Nat.le_trans h.bk h2⟩
theorem Shw.len {n b : Nat} {d : PyData} (h : Shw n b d) (hb : b ≤ 27000) : d.shown.length ≤ sizeLine := by
  have q := PyData.shown_le_bulk 600 (by decide) d h.lf
  have e : sizeLine = 16777216 := by decide
  have := h.bk
  have m : (600 + 2) * d.bulk ≤ 602 * 27000 := Nat.mul_le_mul (Nat.le_refl _) (by omega)
  omega
theorem Shw.go {n b : Nat} {d : PyData} (h : Shw n b d) (hn : n ≤ 64) (hb : b ≤ 27000) : d.showable = true ∧ d.depth ≤ 64 ∧ d.shown.length ≤ sizeLine := ⟨h.sh, Nat.le_trans h.dp hn, h.len hb⟩
theorem shw_sw {n b : Nat} {d : PyData} (h : Sw n b d) : Shw n b d := ⟨h.sh, h.lf, h.dp, h.bk⟩
theorem shw_none {n b : Nat} : Shw n b .none := ⟨rfl, rfl, by simp [PyData.depth], by simp [PyData.bulk]⟩
theorem shw_bool {n b : Nat} (x : Bool) : Shw n b (.bool x) := ⟨rfl, rfl, by simp [PyData.depth], by simp [PyData.bulk]⟩
theorem shw_int {n b : Nat} {i : Int} (h : -1000000000000000000000000000000 < i ∧ i < 1000000000000000000000000000000) : Shw n b (.int i) := (shw_sw (sw_int (n := n) h)).mono (Nat.le_refl _) (Nat.zero_le _)
theorem shw_all {n b : Nat} : ∀ ds : List PyData, (∀ d ∈ ds, Shw n b d) → PyData.showableAll ds = true ∧ PyData.leavesShortAll 600 ds = true ∧ PyData.depthAll ds ≤ n ∧ PyData.bulkAll ds ≤ ds.length * (b + 1)
  | [], _ => ⟨rfl, rfl, by simp [PyData.depthAll], by simp [PyData.bulkAll]⟩
  | d :: ds, h => by
    have h1 := h d List.mem_cons_self
    obtain ⟨a1, a2, a4, a5⟩ := shw_all ds fun e he => h e (List.mem_cons_of_mem _ he)
    refine ⟨by simp [PyData.showableAll, h1.sh, a1], by simp [PyData.leavesShortAll, h1.lf, a2], ?_, ?_⟩
    · have := h1.dp
      simp only [PyData.depthAll]
      omega
    · have := h1.bk
      have e : (ds.length + 1) * (b + 1) = ds.length * (b + 1) + (b + 1) := Nat.succ_mul _ _
      simp only [PyData.bulkAll, List.length_cons]
      omega
theorem shw_list {n b c : Nat} {ds : List PyData} (h : ∀ d ∈ ds, Shw n b d) (hc : ds.length * (b + 1) ≤ c) : Shw (n + 1) c (.list ds) := by
  obtain ⟨a1, a2, a4, a5⟩ := shw_all ds h
  exact ⟨by simpa only [PyData.showable] using a1, by simpa only [PyData.leavesShort] using a2, by simp only [PyData.depth]; omega, by simp only [PyData.bulk]; omega⟩
theorem shw_tup {n b c : Nat} {ds : List PyData} (h : ∀ d ∈ ds, Shw n b d) (hc : ds.length * (b + 1) ≤ c) : Shw (n + 1) c (.tuple ds) := by
  obtain ⟨a1, a2, a4, a5⟩ := shw_all ds h
  exact ⟨by simpa only [PyData.showable] using a1, by simpa only [PyData.leavesShort] using a2, by simp only [PyData.depth]; omega, by simp only [PyData.bulk]; omega⟩
theorem shw_dic0 {n b : Nat} : Shw (n + 1) b (.dict []) := ⟨rfl, rfl, by simp [PyData.depth, PyData.depthKv], by simp [PyData.bulk, PyData.bulkKv]⟩
/-- many times over, not written out -/
def repD (n : Nat) (xs : List PyData) : List PyData := (List.replicate n xs).flatten
theorem repD_mem {n : Nat} {xs : List PyData} {d : PyData} (h : d ∈ repD n xs) : d ∈ xs := by
  obtain ⟨l, hl, hd⟩ := List.mem_flatten.mp h
  rw [(List.mem_replicate.mp hl).2] at hd
  exact hd
theorem repD_len (xs : List PyData) : ∀ n : Nat, (repD n xs).length = n * xs.length
  | 0 => by rw [Nat.zero_mul]; rfl
  | n + 1 => by
    have e : repD (n + 1) xs = xs ++ repD n xs := by unfold repD; rw [List.replicate_succ, List.flatten_cons]
    rw [e, List.length_append, repD_len xs n, Nat.succ_mul, Nat.add_comm]
def dMulR : DOp
  | .list xs, .int n, k => (-(2 ^ 63) ≤ n ∧ n < 2 ^ 63 ∧ xs.length * n.toNat ≤ sizeLine) ∧ k (.list (repD n.toNat xs))
  | _, _, _ => False
theorem ov_mulR : OpV X (binaryOp .Mult) dMulR := by
  obtain ⟨r, h1, h2⟩ := ov_mul (X := X)
  refine ⟨r, h1, fun G H v1 v2 x y k Q w d1 d2 o q => h2 G H v1 v2 x y k Q w d1 d2 ?_ q⟩
  unfold dMulR at o
  split at o
  · exact o
  · exact o.elim
/-! ### texts of small signs -/
def SmS (x : Str) : Prop := ∀ c ∈ x.cps.toList, c < 16 ^ 8
theorem sms_of (z : String) : SmS (Str.ofString z) := fun c hc => by
  rw [Str.ofString_eq_toList] at hc
  obtain ⟨k, _, rfl⟩ := List.mem_map.mp (show c ∈ z.toList.map Char.toNat by simpa using hc)
  exact k.val.toNat_lt
theorem sms_app {x y : Str} (hx : SmS x) (hy : SmS y) : SmS (x ++ y) := fun c hc => by
  have e : (x ++ y).cps.toList = x.cps.toList ++ y.cps.toList := Array.toList_append
  rw [e] at hc
  exact (List.mem_append.mp hc).elim (hx c) (hy c)
theorem sms_from : ∀ (ts : List Str) (k : Nat) (a : Str), SmS a → (∀ t ∈ ts, SmS t) → SmS (textFrom k a ts)
  | [], _, _, ha, _ => ha
  | t :: ts, k, a, ha, h => sms_from ts (k + 1) _ (sms_app (sms_app ha (sms_of _)) (h t List.mem_cons_self)) fun u hu => h u (List.mem_cons_of_mem _ hu)
theorem sms_ints (ns : List Int) : SmS (PyData.shown (.list (ns.map .int))) := by
  simp only [PyData.shown, PyData.shownAll_ints]
  refine sms_app (sms_from _ _ _ (sms_of _) fun t ht => ?_) (sms_of _)
  obtain ⟨n, _, rfl⟩ := List.mem_map.mp ht
  exact sms_of _
theorem shw_str {n b : Nat} {x : Str} (h : SmS x) (hl : x.length ≤ b) : Shw n b (.str x) := ⟨rfl, by simp only [PyData.leavesShort, List.all_eq_true, decide_eq_true_eq]; exact h, by simp [PyData.depth], by simp only [PyData.bulk]; exact hl⟩
theorem shw_ints {n b : Nat} {ns : List Int} (h : ∀ i ∈ ns, -1000000000000000000000000000000 < i ∧ i < 1000000000000000000000000000000) (hl : ns.length ≤ b) : Shw (n + 1) b (.list (ns.map .int)) :=
  shw_list (b := 0) (fun d hd => by
    obtain ⟨i, hi, rfl⟩ := List.mem_map.mp hd
    exact shw_int (h i hi)) (by rw [List.length_map]; omega)
end
end Sp
end

section
set_option maxHeartbeats 1000000
/-! A comprehension with a condition. -/
namespace Sp
open PySem PySem.Spec PyProof.Rows L2
/-- a comprehension that makes A i behind the first i -/
theorem lc_filt {n : Nat} {it : Nat → Option PyData} {b : VB} {t : VT} {fe : VF} {sl : List Nat} {e1 : En} {k : W → En → Prop} (A : Nat → List PyData) (h0 : A 0 = []) (hz : n ≤ sizeLine) (hs : (sl.all fun j => !isOwn e1[j]? && decide (j < e1.length)) = true)
    (hst : ∀ (i : Nat) (x : PyData) (Zy : PyData → En → Prop) (Zn : En → Prop), i < n → it i = some x → (∀ y e4, A (i + 1) = A i ++ [y] → unset e4 sl = unset e1 sl → Zy y e4) → (∀ e3, A (i + 1) = A i → unset e3 sl = unset e1 sl → Zn e3) → b x (unset e1 sl) fun e2 => t e2 fun c e3 => if c = true then fe e3 (vD Zy) else Zn e3)
    (hk : k (.d (.list (A n))) (back e1 (unset e1 sl) sl)) : LcGoal n it b t fe sl e1 k := by
  refine ⟨⟨hz, hs⟩, fun i acc e => e = unset e1 sl ∧ acc = A i, ⟨rfl, h0.symm⟩, ?_, ?_⟩
  · rintro i x acc e hi hx _ ⟨rfl, rfl⟩
    exact hst i x (fun y e4 => unset e4 sl = unset e1 sl ∧ A i ++ [y] = A (i + 1)) (fun e3 => unset e3 sl = unset e1 sl ∧ A i = A (i + 1)) hi hx (fun y e4 h1 h2 => ⟨h2, h1.symm⟩) fun e3 h1 h2 => ⟨h2, h1.symm⟩
  · rintro acc e _ ⟨rfl, rfl⟩
    exact hk
/-- the filtered front -/
theorem filt_succ {p : Int → Bool} {l : List Int} {i : Nat} {x : Int} (h : l[i]? = some x) : ((l.take (i + 1)).filter p).map PyData.int = ((l.take i).filter p).map PyData.int ++ if p x = true then [.int x] else [] := by
  have e : (l.take (i + 1)).filter p = (l.take i).filter p ++ if p x = true then [x] else [] := by
    rw [take_succ h, List.filter_append]
    congr 1
    by_cases z : p x = true
    · rw [if_pos z, List.filter_cons_of_pos z]; rfl
    · rw [if_neg z, List.filter_cons_of_neg z]; rfl
  rw [e, List.map_append]
  congr 1
  split <;> rfl
end Sp
end

section
set_option maxHeartbeats 4000000
namespace Sp
open PySem PySem.Spec PyProof.Rows L2
local macro_rules | `(tactic| decreasing_trivial_pre_omega) => `(tactic| ((try simp only [vSeq, vSeqJ, vAsg, vTell, bName, vVar, vC, vOp, vTwo, vOne, vUn, lk, vTOp, wB, vTrue, dTrue, vNot, vAnd, vOr, vAndV, vOrV, vNotV, vB, vIf, vNil, vCons, dsOf, vTup, vLst, vDs, Option.map_some, dI, dSub, dAdd, dMul, dMod, dDiv, dPow, dLt, dLe, dGt, dGe, dEq, dNe, dNeg, dIx, vNoPart, vPart, wI, vSl, dSl, dRev, lks, vCB, dLen, dAbs, dMax2, dMin2, dSum, dMax1, dMin1, dInt1, dListOf, dTupleOf, dSorted, dSortedR, vFn, vFnC, bNil, bCons, bTup, vFrz, vIfS, vRet, vDrop, vOwn, vOwnL, vPopAt, dAll, dAny, vPar, vAug, vApp, vPop, vRevM, vExt, vPut, iL, iT, iR1, iR2, iEn, iZp, vFor, vWhile, vLc, sz, vYes, vD, vChain, vTChain, vIsi, vAll, isInt, isBool, isList, isTuple, dIsN, dNotN, vTFour, vIff, vAllT, isLT, dIn, dNotin, dIs, dIsNot, vSlA, dSlA, vAugS, vTail, vKw, vCount, vTry, vCopy, vIsV, vIsVT, vIsNo, vFnX, calmF, id, vPickX, vInX, vXX, vIsW, vAllZ, vAnyZ, vSumZ, qGen1, qGen2, qLoc, qFree, qInt, qSub, qCmp, qChain, qAnd, qIx, qYes, qTCmp, vNotT, vTry, vCopy, vIsV, vIsVT, vIsNo, vFnX, calmF, id, vPickX, vInX, vXX, vIsW, vAllZ, vAnyZ, vSumZ, qGen1, qGen2, qLoc, qFree, qInt, qSub, qCmp, qChain, qAnd, qIx, qYes, qTCmp, vNotT, vTry, vCopy, vIsV, vIsVT, vIsNo, vFnX, calmF, id, vPickX, vInX, vXX, vIsW, dReprA, dStrA, dEqNil, dNeNil, dMulR, vPar3, List.mem_cons, List.not_mem_nil, List.length_cons, List.length_nil, List.getElem?_cons_zero, List.getElem?_cons_succ, List.getElem?_nil, List.set_cons_zero, List.set_cons_succ, unset, back, isOwn, env0, envC, List.map_cons, List.map_nil, List.cons_append, List.nil_append, List.replicate_succ, List.replicate_zero, Nat.reduceAdd, Nat.reduceSub, Nat.reduceLT, Nat.reduceLeDiff, Int.reduceLE, Int.reduceLT, Int.reduceNeg, Int.reduceToNat, Int.reducePow, Int.reduceAdd, Int.reduceSub, Int.reduceMul, Int.cast_ofNat_Int, Int.natCast_zero, Int.reduceEq, not_true_eq_false, not_false_eq_true, false_and, and_false, false_or, or_false, true_or, or_true, Nat.zero_add, Nat.zero_le, true_and, and_true, if_true, if_false, Bool.false_eq_true, Bool.not_true, Bool.not_false, List.all_cons, List.all_nil, Bool.and_true, Bool.true_and, decide_true, Option.getD_some, Option.getD_none, reduceCtorEq, decide_eq_true_eq, Bool.not_eq_true', decide_eq_false_iff_not]); (repeat (refine go ?_; try simp only [vSeq, vSeqJ, vAsg, vTell, bName, vVar, vC, vOp, vTwo, vOne, vUn, lk, vTOp, wB, vTrue, dTrue, vNot, vAnd, vOr, vAndV, vOrV, vNotV, vB, vIf, vNil, vCons, dsOf, vTup, vLst, vDs, Option.map_some, dI, dSub, dAdd, dMul, dMod, dDiv, dPow, dLt, dLe, dGt, dGe, dEq, dNe, dNeg, dIx, vNoPart, vPart, wI, vSl, dSl, dRev, lks, vCB, dLen, dAbs, dMax2, dMin2, dSum, dMax1, dMin1, dInt1, dListOf, dTupleOf, dSorted, dSortedR, vFn, vFnC, bNil, bCons, bTup, vFrz, vIfS, vRet, vDrop, vOwn, vOwnL, vPopAt, dAll, dAny, vPar, vAug, vApp, vPop, vRevM, vExt, vPut, iL, iT, iR1, iR2, iEn, iZp, vFor, vWhile, vLc, sz, vYes, vD, vChain, vTChain, vIsi, vAll, isInt, isBool, isList, isTuple, dIsN, dNotN, vTFour, vIff, vAllT, dIn, dNotin, dIs, dIsNot, vSlA, dSlA, vAugS, vTail, vKw, vCount, vTry, vCopy, vIsV, vIsVT, vIsNo, vFnX, calmF, id, vPickX, vInX, vXX, vIsW, vAllZ, vAnyZ, vSumZ, qGen1, qGen2, qLoc, qFree, qInt, qSub, qCmp, qChain, qAnd, qIx, qYes, qTCmp, vNotT, vTry, vCopy, vIsV, vIsVT, vIsNo, vFnX, calmF, id, vPickX, vInX, vXX, vIsW, vAllZ, vAnyZ, vSumZ, qGen1, qGen2, qLoc, qFree, qInt, qSub, qCmp, qChain, qAnd, qIx, qYes, qTCmp, vNotT, vTry, vCopy, vIsV, vIsVT, vIsNo, vFnX, calmF, id, vPickX, vInX, vXX, vIsW, dReprA, dStrA, dEqNil, dNeNil, dMulR, vPar3, List.mem_cons, List.not_mem_nil, List.length_cons, List.length_nil, List.getElem?_cons_zero, List.getElem?_cons_succ, List.getElem?_nil, List.set_cons_zero, List.set_cons_succ, unset, back, isOwn, env0, envC, List.map_cons, List.map_nil, List.cons_append, List.nil_append, List.replicate_succ, List.replicate_zero, Nat.reduceAdd, Nat.reduceSub, Nat.reduceLT, Nat.reduceLeDiff, Int.reduceLE, Int.reduceLT, Int.reduceNeg, Int.reduceToNat, Int.reducePow, Int.reduceAdd, Int.reduceSub, Int.reduceMul, Int.cast_ofNat_Int, Int.natCast_zero, Int.reduceEq, not_true_eq_false, not_false_eq_true, false_and, and_false, false_or, or_false, true_or, or_true, Nat.zero_add, Nat.zero_le, true_and, and_true, if_true, if_false, Bool.false_eq_true, Bool.not_true, Bool.not_false, List.all_cons, List.all_nil, Bool.and_true, Bool.true_and, decide_true, Option.getD_some, Option.getD_none, reduceCtorEq, decide_eq_true_eq, Bool.not_eq_true', decide_eq_false_iff_not]))))

theorem kit_none {K : PySem.W.Frag} {t : Value} : ∀ {us : List Value}, (∀ u ∈ us, PySem.W.kitOne K t u = some false) → PySem.W.kitAny K t us = some false
  | [], _ => rfl
  | u :: us, h => by
    have i := kit_none (us := us) fun v hv => h v (List.mem_cons_of_mem _ hv)
    simp only [PySem.W.kitAny, h u List.mem_cons_self]
    exact i
theorem rises_neg (ns : List Int) : risesL ns = (fallsL ns).map fun s => 0 - s := by
  unfold risesL fallsL
  rw [List.map_zipWith]
  congr 1
  funext a b
  omega
theorem min_stB {S : List Int} {m : Int} (pw : S.Pairwise (· ≥ ·)) (m1 : m ∈ S ++ [1]) (m2 : ∀ y ∈ S ++ [1], m ≤ y) : decide (1 ≤ m) = stB S := by
  unfold stB
  rw [decide_eq_true pw, Bool.and_true]
  cases z : S.all fun s => decide (1 ≤ s) with
  | true =>
    refine decide_eq_true ?_
    rcases List.mem_append.mp m1 with h | h
    · exact of_decide_eq_true (List.all_eq_true.mp z m h)
    · rw [List.mem_singleton.mp h]
      decide
  | false =>
    obtain ⟨s, hs, h⟩ := List.all_eq_false.mp z
    have h : ¬ 1 ≤ s := fun q => h (decide_eq_true q)
    have := m2 s (List.mem_append.mpr (.inl hs))
    exact decide_eq_false (by omega)
theorem filt_all {xs : List PyData} : (xs.filter fun y => !wD y).isEmpty = xs.all wD := by
  induction xs with
  | nil => rfl
  | cons x xs ih =>
    cases h : wD x with
    | true => rw [List.filter_cons_of_neg (by simp [h]), List.all_cons, h, Bool.true_and, ih]
    | false => rw [List.filter_cons_of_pos (by simp [h]), List.all_cons, h]; rfl
section
variable {P : Program} {w : World} {K : PySem.W.Frag} {mg : Str → Option Value} {base : Heap} {T : Addr} {Tb : List Addr} (D : Ds K mg) (B : Blt mg) (GD : FnOk P w K mg base CX0 2 D.is_days.f D.is_days.fd ["thing"] (spDays K T)) (hT : T ∈ Tb)
include D B GD hT
abbrev c__law_is_mirror : Fc := fun ds k => ∃ (d : PyData) (f : Bool), ds = [d, .bool f] ∧ (∀ xs, d = .list xs → xs.length ≤ 10000) ∧ k (.bool (mirB f d))
theorem ok__law_is_mirror : FnOk P w K mg base CX0 1 D._law_is_mirror.f D._law_is_mirror.fd ["thing", "falling"] (spD Tb c__law_is_mirror) := by
  refine D._law_is_mirror.F.ok sc__law_is_mirror (fun vs H Q E h => spD_len (n := 2) h fun ds k h => ?_) (fun cdv A outer s H vs Q E hr h => run_body (N := ["thing", "falling", "steps", "k", "one", "step"])
    (vss_cons (vs_if (PW.pt (vw_or (vt_not (vt_val (ve_isi kind_list (pe_isi B (ve_var (pv 0)) (pe_ty "list" B.list))))) (vw_or1 (vt_cmp (ov_eqNil (Room.u0 hr)) (ve_var (pv 0)) (ve_lst va_nil) (nomark _)))))
        (vss_one (vs_ret ve_bl))
        vss_nil)
      (vss_cons (vs_if (vt_cmp (ov_neNil (Room.u0 hr)) (ve_lc (pe_lc (own := [("one", 4)]) rfl sc__law_is_mirror.nd (vi_list (ve_var (pv 0))) (blkOk_by (N := ["thing", "falling", "steps", "k", "one", "step"]) (sc := defScope s__law_is_mirror) (by decide +kernel)) (fun _ _ _ _ _ => (vg_name (pg_name (i := 4) sc__law_is_mirror.nd rfl (Or.inl rfl)))) (fun _ _ _ _ _ => (pts_one (PW.pt (vw_or (vt_not (vt_val (ve_isi kind_int (pe_isi B (ve_var (pv 4)) (pe_ty "int" B.int))))) (vw_or1 (vt_val (ve_isi kind_bool (pe_isi B (ve_var (pv 4)) (pe_ty "bool" B.bool))))))))) (fun _ _ _ _ _ => (ve_var (pv 4))))) (ve_lst va_nil) (nomark _))
        (vss_one (vs_ret ve_bl))
        vss_nil)
      (vss_cons (vs_setLc (ps_setLc (i := 2) (own := [("k", 3)]) rfl sc__law_is_mirror.nd rfl rfl (sw_true rfl rfl rfl (by decide +kernel)) (vi_rng1 (pi_range1 (by rfl) B.range (va_cons (ve_op ov_sub (ve_callB cv_len (by rfl) B.len PySem.boot_len (va_cons (ve_var (pv 0)) va_nil)) ve_int) va_nil))) (blkOk_by (N := ["thing", "falling", "steps", "k", "one", "step"]) (sc := defScope s__law_is_mirror) (by decide +kernel)) (fun _ _ _ _ _ => (vg_name (pg_name (i := 3) sc__law_is_mirror.nd rfl (Or.inl rfl)))) (fun _ _ _ _ _ => vts_nil) (fun _ _ _ _ _ => (ve_op ov_sub (ve_ix (ve_var (pv 0)) (ve_var (pv 3))) (ve_ix (ve_var (pv 0)) (ve_op ov_add (ve_var (pv 3)) ve_int))))))
      (vss_cons (vs_if (vt_not (vt_val (ve_var (pv 1))))
        (vss_one (vs_setLc (ps_setLc (i := 2) (own := [("step", 5)]) rfl sc__law_is_mirror.nd rfl rfl (sw_true rfl rfl rfl (by decide +kernel)) (vi_list (ve_var (pv 2))) (blkOk_by (N := ["thing", "falling", "steps", "k", "one", "step"]) (sc := defScope s__law_is_mirror) (by decide +kernel)) (fun _ _ _ _ _ => (vg_name (pg_name (i := 5) sc__law_is_mirror.nd rfl (Or.inl rfl)))) (fun _ _ _ _ _ => vts_nil) (fun _ _ _ _ _ => (ve_op ov_sub ve_int (ve_var (pv 5)))))))
        vss_nil)
      (vss_cons (vs_if (PW.pt (vw_or (vt_cmp (ov_ne hr.units) (ve_ix (ve_var (pv 0)) (ve_ix (ve_lst (va_cons ve_int (va_cons (ve_un uv_neg ve_int) va_nil))) (ve_callTy cv_int1 (by rfl) B.int (by decide +kernel) (va_cons (ve_var (pv 1)) va_nil)))) ve_int (nomark _)) (vw_or1 (vt_cmp (ov_ne hr.units) (ve_var (pv 2)) (ve_revL (ve_callB cv_sorted (by rfl) B.sorted (by decide +kernel) (va_cons (ve_var (pv 2)) va_nil))) (nomark _)))))
        (vss_one (vs_ret ve_bl))
        vss_nil)
      (vss_one (vs_ret (ve_cmp ov_ge (ve_callB (cv_min1 rfl) (by rfl) B.min (by decide +kernel) (va_cons (ve_op ov_add (ve_var (pv 2)) (ve_lst (va_cons ve_int va_nil))) va_nil)) ve_int (nomark _))))))))) h fun ds k h => ?_)
  · first | (obtain ⟨_, rfl, _⟩ := h; rfl) | (obtain ⟨_, _, rfl, _⟩ := h; rfl) | (obtain ⟨_, _, _, rfl, _⟩ := h; rfl) | (obtain ⟨_, _, _, _, rfl, _⟩ := h; rfl) | (obtain ⟨_, _, _, _, _, rfl, _⟩ := h; rfl) | (obtain ⟨_, _, _, _, _, _, rfl, _⟩ := h; rfl)
  · obtain ⟨d, f, rfl, hl, hk⟩ := h
    cases d with
    | list xs =>
      have hl := hl xs rfl
      decreasing_trivial_pre_omega
      by_cases he : xs.isEmpty = true
      · rw [if_pos he]
        obtain rfl := List.isEmpty_iff.mp he
        have e : mirB f (.list []) = false := by cases f <;> rfl
        rw [e] at hk
        exact hk
      rw [if_neg he]
      decreasing_trivial_pre_omega
      refine lc_filt (fun i => (xs.take i).filter fun y => !wD y) rfl (le_line (by omega)) rfl (fun i x Zy Zn hi hx hy hn => ?_) ?_
      · have hx2 : xs[i]? = some x := hx
        have e1 : (xs.take (i + 1)).filter (fun y => !wD y) = (xs.take i).filter (fun y => !wD y) ++ if (!wD x) = true then [x] else [] := by
          rw [take_succ hx2, List.filter_append]
          congr 1
          by_cases z : (!wD x) = true
          · rw [if_pos z]
            exact List.filter_cons_of_pos (p := fun y => !wD y) z
          · rw [if_neg z]
            exact List.filter_cons_of_neg (p := fun y => !wD y) z
        cases x with
        | int n =>
          decreasing_trivial_pre_omega
          exact hn _ (e1.trans (List.append_nil _)) rfl
        | _ =>
          decreasing_trivial_pre_omega
          exact hy _ _ e1 rfl
      rw [List.take_length]
      decreasing_trivial_pre_omega
      rw [filt_all]
      cases hall : xs.all wD with
      | false =>
        rw [if_pos (by decide)]
        rw [mirB_no (d := .list xs) hall] at hk
        exact hk
      | true =>
        rw [if_neg (by decide)]
        obtain ⟨ns, rfl⟩ := wD_ints2 hall
        rw [mirB_il] at hk
        rw [List.length_map] at hl
        have n1 : 1 ≤ ns.length := by
          cases ns with
          | nil => exact absurd rfl he
          | cons _ _ => simp
        have ll : (ns.map PyData.int).length = ns.length := List.length_map _
        decreasing_trivial_pre_omega
        refine ⟨⟨by omega, by omega⟩, ?_⟩
        have fl : (fallsL ns).length = ns.length - 1 := by unfold fallsL; rw [List.length_zipWith, List.length_tail]; omega
        refine lc_mapN ((fallsL ns).map .int) (by rw [List.length_map, fl]; omega) (le_line (by omega)) rfl (fun q x y Z hq hx hy hZ => ?_) ?_
        · obtain ⟨rfl, _⟩ := rng_at hx
          have h1 : ns[q]? = some (ns[q]'(by omega)) := List.getElem?_eq_getElem _
          have h2 : ns[q + 1]? = some (ns[q + 1]'(by omega)) := List.getElem?_eq_getElem _
          unfold fallsL at hy
          rw [List.getElem?_map, List.getElem?_zipWith, List.getElem?_tail, h1, h2] at hy
          cases hy
          have a1 : atI (ns.map PyData.int) (0 + (q : Int)) = some (.int (ns[q]'(by omega))) := by
            rw [Int.zero_add]
            exact atI_nat (by rw [List.getElem?_map, h1]; rfl)
          have a2 : atI (ns.map PyData.int) (0 + (q : Int) + 1) = some (.int (ns[q + 1]'(by omega))) := by
            rw [show 0 + (q : Int) + 1 = ((q + 1 : Nat) : Int) by omega]
            exact atI_nat (by rw [List.getElem?_map, h2]; rfl)
          decreasing_trivial_pre_omega
          refine ⟨_, a1, ?_⟩
          decreasing_trivial_pre_omega
          refine ⟨_, a2, ?_⟩
          decreasing_trivial_pre_omega
          exact hZ _ rfl
        decreasing_trivial_pre_omega
        cases f with
        | true =>
          rw [if_pos rfl, if_pos rfl] at hk
          obtain ⟨r, q, rfl⟩ : ∃ r q, ns = r ++ [q] := by
            rcases List.eq_nil_or_concat ns with rfl | ⟨r, q, rfl⟩
            · cases n1
            · exact ⟨r, q, by rw [List.concat_eq_append]⟩
          rw [List.getLast?_concat] at hk
          decreasing_trivial_pre_omega
          refine ⟨_, atI_nat (j := 1) rfl, ?_⟩
          rw [List.map_append]
          refine ⟨_, atI_last _ _, ?_⟩
          decreasing_trivial_pre_omega
          by_cases c : q = 0
          · rw [if_neg (fun z => z c)]
            rw [decide_eq_true (congrArg some c), Bool.true_and] at hk
            refine ints_of fun ms p1 p2 => ?_
            rw [← List.map_reverse, eqv_ilil]
            refine ⟨⟨shaped_il _, shaped_il _⟩, ?_⟩
            by_cases e : fallsL (r ++ [q]) = ms.reverse
            · rw [decide_eq_true e, if_neg (by decide)]
              have pw : (fallsL (r ++ [q])).Pairwise (· ≥ ·) := by
                rw [e]
                exact List.pairwise_reverse.mpr p2
              decreasing_trivial_pre_omega
              refine ⟨le_line (by rw [List.length_map, fl]; omega), ?_⟩
              rw [show List.map PyData.int (fallsL (r ++ [q])) ++ [PyData.int 1] = ((fallsL (r ++ [q])) ++ [1]).map .int by rw [List.map_append]; rfl]
              refine ints_of ⟨by simp, fun m m1 m2 => ?_⟩
              rw [min_stB pw m1 m2]
              exact hk
            · rw [decide_eq_false e, if_pos rfl]
              have pw : ¬ (fallsL (r ++ [q])).Pairwise (· ≥ ·) := fun h => e (perm_falls ((List.reverse_perm ms).trans p1).symm h (List.pairwise_reverse.mpr p2))
              unfold stB at hk
              rw [decide_eq_false pw, Bool.and_false] at hk
              exact hk
          · rw [if_pos c]
            rw [decide_eq_false (fun z => c (Option.some.inj z)), Bool.false_and] at hk
            exact hk
        | false =>
          rw [if_neg (by decide), if_neg (by decide)] at hk
          decreasing_trivial_pre_omega
          have rl : (risesL ns).length = (fallsL ns).length := by rw [rises_neg, List.length_map]
          refine lc_mapN ((risesL ns).map .int) (by rw [List.length_map, List.length_map, rl]) (le_line (by rw [List.length_map]; omega)) rfl (fun i x y Z hi hx hy hZ => ?_) ?_
          · obtain ⟨v, rfl, hv⟩ := il_at hx
            rw [rises_neg, List.getElem?_map, List.getElem?_map, hv] at hy
            cases hy
            decreasing_trivial_pre_omega
            exact hZ _ rfl
          obtain ⟨q, r, rfl⟩ : ∃ q r, ns = q :: r := by
            cases ns with
            | nil => cases n1
            | cons q r => exact ⟨q, r, rfl⟩
          rw [List.head?_cons] at hk
          decreasing_trivial_pre_omega
          refine ⟨_, atI_nat (j := 0) rfl, ?_⟩
          refine ⟨_, atI_nat (j := 0) rfl, ?_⟩
          decreasing_trivial_pre_omega
          by_cases c : q = 0
          · rw [if_neg (fun z => z c)]
            rw [decide_eq_true (congrArg some c), Bool.true_and] at hk
            refine ints_of fun ms p1 p2 => ?_
            rw [← List.map_reverse, eqv_ilil]
            refine ⟨⟨shaped_il _, shaped_il _⟩, ?_⟩
            by_cases e : risesL (q :: r) = ms.reverse
            · rw [decide_eq_true e, if_neg (by decide)]
              have pw : (risesL (q :: r)).Pairwise (· ≥ ·) := by
                rw [e]
                exact List.pairwise_reverse.mpr p2
              decreasing_trivial_pre_omega
              refine ⟨le_line (by rw [List.length_map, rl, fl]; omega), ?_⟩
              rw [show List.map PyData.int (risesL (q :: r)) ++ [PyData.int 1] = ((risesL (q :: r)) ++ [1]).map .int by rw [List.map_append]; rfl]
              refine ints_of ⟨by simp, fun m m1 m2 => ?_⟩
              rw [min_stB pw m1 m2]
              exact hk
            · rw [decide_eq_false e, if_pos rfl]
              have pw : ¬ (risesL (q :: r)).Pairwise (· ≥ ·) := fun h => e (perm_falls ((List.reverse_perm ms).trans p1).symm h (List.pairwise_reverse.mpr p2))
              unfold stB at hk
              rw [decide_eq_false pw, Bool.and_false] at hk
              exact hk
          · rw [if_pos c]
            rw [decide_eq_false (fun z => c (Option.some.inj z)), Bool.false_and] at hk
            exact hk
    | _ =>
      decreasing_trivial_pre_omega
      exact hk
variable {tk_MT : Tok} (mg_MOST_TOLD : mg "MOST_TOLD" = some (.int 1000 tk_MT))
include mg_MOST_TOLD
variable (XS : Xs K mg)
include XS
variable (H_need_steps : FnOk P w K mg base (L2.CX P w) 1 D.need_steps.f D.need_steps.fd ["steps"] (spX Tb (cx_need_steps XS)))
include H_need_steps
abbrev c__law_asked : Fc := fun ds k => ∃ (door : Int) (d : PyData), ds = [.int door, d] ∧ 0 ≤ door ∧ door < 3 ∧ (∀ xs, d = .list xs → xs.length ≤ 10000) ∧ (∀ ns : List Int, d = il ns → mirB true d = true → ∀ z, (fallsL ns).head? = some z → z ≤ 999) ∧ (∀ ns : List Int, d = il ns → mirB false d = true → ∀ z, (risesL ns).head? = some z → z ≤ 999) ∧
  k (.list [.bool (mirB (decide (door = 0)) d), .bool !(mirB (decide (door = 0)) d)])
theorem ok__law_asked : FnOk P w K mg base CX0 5 D._law_asked.f D._law_asked.fd ["door", "thing"] (spD Tb c__law_asked) := by
  let d_bests_of := D.bests_of
  have GX_bests_of := (okX_bests_of D B GD hT mg_MOST_TOLD XS H_need_steps).mono (show 4 ≤ 4 by decide)
  let d_spills_of := D.spills_of
  have GX_spills_of := (okX_spills_of D B GD hT mg_MOST_TOLD XS H_need_steps).mono (show 4 ≤ 4 by decide)
  let d_days_of := D.days_of
  have GX_days_of := (okX_days_of D B GD hT XS H_need_steps).mono (show 4 ≤ 4 by decide)
  refine D._law_asked.F.ok sc__law_asked (fun vs H Q E h => spD_len (n := 2) h fun ds k h => ?_) (fun cdv A outer s H vs Q E hr h => run_body (N := ["door", "thing", "told", "caught", "e", "alone"])
    (vss_cons (vs_set (ps_set (i := 2) sc__law_asked.nd rfl (Or.inl rfl) ve_non))
      (vss_cons (vs_set (ps_set (i := 3) sc__law_asked.nd rfl (Or.inl rfl) ve_non))
      (vss_cons (vs_tryK (i := 4) rfl rfl rfl sc__law_asked.nd rfl rfl ⟨rfl, by decide, .inl XS.TankError.m⟩ (fun Wx pn xe tk => (vssx_one (vsx_set (ps_set (i := 2) sc__law_asked.nd rfl (Or.inl rfl) (vex_pick (gs := [(D.bests_of.f, cx_bests_of XS), (D.spills_of.f, cx_spills_of XS), (D.days_of.f, cx_days_of XS)]) (fun p hp => by simp only [List.mem_cons, List.not_mem_nil, or_false] at hp; rcases hp with rfl | rfl | rfl; (exact ⟨_, _, GX_bests_of, D.bests_of.F.kp, D.bests_of.b⟩); (exact ⟨_, _, GX_spills_of, D.spills_of.F.kp, D.spills_of.b⟩); (exact ⟨_, _, GX_days_of, D.days_of.F.kp, D.days_of.b⟩)) tk hr (by show 3 ≤ sizeLine; decide) (pa_cons (pe_glob (by rfl) D.bests_of.m rfl) (pa_cons (pe_glob (by rfl) D.spills_of.m rfl) (pa_cons (pe_glob (by rfl) D.days_of.m rfl) pa_nil))) (ve_var (pv 0)) (va_cons (ve_var (pv 1)) va_nil)))))) (fun a pn => (vss_one (vs_copy (ps_set (i := 3) sc__law_asked.nd rfl (Or.inl rfl) (pv 4))))))
      (vss_cons (vs_set (ps_set (i := 5) sc__law_asked.nd rfl (Or.inl rfl) (ve_and (ve_isW (.own _) (pe_callB call_isW (by rfl) B.isinstance (by decide +kernel) (pa_cons (pv 3) (pa_cons (pe_glob (by rfl) XS.NoMirror.m rfl) pa_nil)))) (ve_one (ve_not (ve_isVT (.cons (.own _) (.cons (.own _) (.cons (.own _) (.cons (.own _) (.cons (.own _) .nil))))) (by show 5 ≤ sizeLine; decide) (pe_callB call_isVT (by rfl) B.isinstance (by decide +kernel) (pa_cons (pv 3) (pa_cons (pe_tup (pa_cons (pe_glob (by rfl) XS.NoCap.m rfl) (pa_cons (pe_glob (by rfl) XS.NoDays.m rfl) (pa_cons (pe_glob (by rfl) XS.NoMany.m rfl) (pa_cons (pe_glob (by rfl) XS.NoMost.m rfl) (pa_cons (pe_glob (by rfl) XS.TooMany.m rfl) pa_nil)))))) pa_nil)))))))))
      (vss_one (vs_ret (ve_lst (va_cons (ve_isi kind_list (pe_isi B (ve_var (pv 2)) (pe_ty "list" B.list))) (va_cons (ve_and (ve_var (pv 5)) (ve_one (ve_isW (.ty "ValueError") (pe_callB call_isW (by rfl) B.isinstance (by decide +kernel) (pa_cons (pv 3) (pa_cons (pe_bltn (by rfl) XS.ve (by decide +kernel) rfl) pa_nil)))))) va_nil))))))))) h fun ds k h => ?_)
  · first | (obtain ⟨_, rfl, _⟩ := h; rfl) | (obtain ⟨_, _, rfl, _⟩ := h; rfl) | (obtain ⟨_, _, _, rfl, _⟩ := h; rfl) | (obtain ⟨_, _, _, _, rfl, _⟩ := h; rfl) | (obtain ⟨_, _, _, _, _, rfl, _⟩ := h; rfl) | (obtain ⟨_, _, _, _, _, _, rfl, _⟩ := h; rfl)
  · obtain ⟨door, d, rfl, d0, d3, hl, h1, h2, hk⟩ := h
    decreasing_trivial_pre_omega
    obtain ⟨g, hg, hgk⟩ : ∃ g : Fx, [cx_bests_of XS, cx_spills_of XS, cx_days_of XS][door.toNat]? = some g ∧ ∀ kk kx, (mirB (decide (door = 0)) d = true → ∀ ms : List Int, kk (il ms)) → (mirB (decide (door = 0)) d = false → kx XS.NoMirror.C) → g [d] kk kx := by
      obtain ⟨j, rfl⟩ : ∃ j : Nat, door = (j : Int) := ⟨door.toNat, by omega⟩
      match j, (by omega : j < 3) with
      | 0, _ => exact ⟨_, rfl, fun kk kx a b => ⟨d, rfl, hl, h1, a, b⟩⟩
      | 1, _ => exact ⟨_, rfl, fun kk kx a b => ⟨d, rfl, hl, h2, a, b⟩⟩
      | 2, _ => exact ⟨_, rfl, fun kk kx a b => ⟨d, rfl, hl, a, b⟩⟩
    refine ⟨g, d0, hg, hgk _ _ (fun mb ms => ?_) (fun mb => ?_)⟩
    · rw [mb] at hk
      decreasing_trivial_pre_omega
      refine ⟨false, XS.kn_NoMirror, ?_⟩
      rw [if_neg (by decide)]
      decreasing_trivial_pre_omega
      exact hk
    · rw [mb] at hk
      refine ⟨XS.em_NoMirror, fun a => ?_⟩
      decreasing_trivial_pre_omega
      refine ⟨XS.NoMirror.C, true, rfl, XS.NoMirror.ec, XS.ki_NoMirror_NoMirror, ?_⟩
      rw [if_pos rfl]
      refine ⟨XS.NoMirror.C, false, rfl, XS.NoMirror.ec, kit_none fun u hu => ?_, ?_⟩
      · simp only [List.mem_cons, List.not_mem_nil, or_false] at hu
        rcases hu with rfl | rfl | rfl | rfl | rfl
        · exact XS.ki_NoMirror_NoCap
        · exact XS.ki_NoMirror_NoDays
        · exact XS.ki_NoMirror_NoMany
        · exact XS.ki_NoMirror_NoMost
        · exact XS.ki_NoMirror_TooMany
      decreasing_trivial_pre_omega
      refine ⟨XS.NoMirror.C, true, rfl, XS.NoMirror.ec, XS.kv_NoMirror, ?_⟩
      decreasing_trivial_pre_omega
      exact hk
end
end Sp
end

section
set_option maxHeartbeats 1000000
/-! Own functions that tell a new list, which who calls may change. -/
namespace Sp
open PySem PySem.Spec PyProof.Rows L2
def spF (Tb : List Addr) (f : Fc) : Sp := fun vs H Q _ => ∃ (hd : Addr → Prop) (ds : List PyData) (k : PyData → Prop), (∀ a, hd a → H a ≠ none) ∧ DvA (hide hd H) vs ds ∧ (∀ T ∈ Tb, GxR.TabG H T) ∧ f ds k ∧
  ∀ a ws xs H', Ex [] H H' → H a = none → H' a = some (.lst ws) → DvA (hide (fun b => hd b ∨ b = a) H') ws xs → k (.list xs) → Q (.ref a) H'
theorem spF_len {Tb : List Addr} {f : Fc} {vs : List V} {H : Hp} {Q : VK} {E : XK} {n : Nat} (h : spF Tb f vs H Q E) (hl : ∀ ds k, f ds k → ds.length = n) : vs.length = n := by
  obtain ⟨hd, ds, k, _, d, _, hf, _⟩ := h
  rw [d.len]
  exact hl ds k hf
/-- .. is a datum as well -/
theorem spF_of {Tb : List Addr} {f : Fc} {vs : List V} {H : Hp} {Q : VK} {E : XK} (h : spD Tb f vs H Q E) : spF Tb f vs H Q E := by
  obtain ⟨hd, ds, k, h0, d, t, hf, q⟩ := h
  refine ⟨hd, ds, k, h0, d, t, hf, fun a ws xs H' x hn ha hw hk => q (.ref a) _ H' x (.lst (hide_of (fun z => h0 a z hn) ha) (DvA.le (fun b o e _ => ?_) _ _ hw)) hk⟩
  obtain ⟨n, e⟩ := hide_some e
  exact hide_of (fun z => n (.inl z)) e
theorem run_bodyF {X : Cx} {Tb : List Addr} {body : List Stmt} {g : VG} {f : Fc} {N : List Str} {vs : List V} {H : Hp} {Q : VK} {E : XK} (hb : VSs X Tb body g) (h : spF Tb f vs H Q E)
    (hg : ∀ ds k, f ds k → g { nx := fun _ => False, rt := fun _ _ => False, ro := k } (env0 N.length ds)) : ∃ t, PSs X body t ∧ t { nx := fun _ H' => Q .non H', rt := Q } (L2.start N vs) H := by
  obtain ⟨hd, ds, k, h0, d, t, hf, q⟩ := h
  refine ⟨_, hb, ⟨H, [], hd, []⟩, _, _, _, rep0 h0 d t, hg ds k hf, ⟨fun _ _ _ _ _ h => h.elim, fun _ _ _ _ _ _ _ _ h => h.elim, fun _ _ _ _ _ h => h.elim, fun _ _ _ _ _ h => h.elim, fun O σ H' env i a vs xs R ho ha dv hk => ?_⟩⟩
  refine q a vs xs H' R.ex ((R.own i a ho).resolve_left fun z => nomatch z) ha (DvA.le (fun b o e _ => ?_) _ _ dv) hk
  obtain ⟨n, e⟩ := hide_some e
  refine hide_of (fun z => n ?_) e
  rcases z with z | rfl
  · exact .inl z
  · exact .inr ⟨i, ho⟩
section
variable {X : Cx} {Tb : List Addr} {e : Expr} {fs : VA} {st : Stmt}
/-- a new list that a call told becomes a slot's own -/
theorem Rep.adopt {F : Fr} {O : Ow} {σ : L2.St} {H H' : Hp} {env : En} {i : Nat} {a : Addr} {ws : List V} {xs : List PyData} (R : Rep Tb F O σ H env) (hi : i < env.length) (x : Ex [] H H') (hn : H a = none) (ha : H' a = some (.lst ws))
    (dv : DvA (hide (fun b => hid F O b ∨ b = a) H') ws xs) : Rep Tb F (own1 O i a) (σ.set i (some (.ref a))) H' (env.set i (.o xs)) := by
  let H1 : Hp := fun b => if b = a then none else H' b
  have x1 : Ex [] H H1 := by
    refine ⟨fun b o n e t => ?_, fun P hP => ?_, fun b z => ?_⟩
    · show (if b = a then none else H' b) = some o
      rw [if_neg (ne_of_none e hn)]
      exact x.keep b o n e t
    · obtain ⟨ps, e, tk⟩ := x.tab P hP
      refine ⟨ps, ?_, tk⟩
      obtain ⟨ps0, e0, _⟩ := hP
      show (if P = a then none else H' P) = _
      rw [if_neg (ne_of_none e0 hn)]
      exact e
    · by_cases q : b = a
      · rw [q]; exact hn
      · have z2 : (if b = a then none else H' b) = none := z
        rw [if_neg q] at z2
        exact x.there b z2
  obtain ⟨R1, g1⟩ := R.grow x1
  have n1 : H1 a = none := if_pos rfl
  have dv1 : DvA (vw F O H1) ws xs := by
    refine DvA.le (fun b o e _ => ?_) _ _ dv
    obtain ⟨n, e⟩ := hide_some e
    refine hide_of (fun z => n (.inl z)) ?_
    show (if b = a then none else H' b) = some o
    rw [if_neg fun z => n (.inr z)]
    exact e
  have R2 := R1.make (i := i) hi n1 dv1
  have eH : upd H1 a (.lst ws) = H' := by
    funext b
    by_cases q : b = a
    · rw [q, upd_same, ha]
    · rw [upd_ne q]
      exact if_neg q
  rw [eH] at R2
  exact R2
/-- name = f(..), a new list -/
def vOwnF (i : Nat) (f : Fc) (fs : VA) : VG := fun E env => fs env fun ws e1 => vDs (fun ds => f ds fun r => match r with
  | .list xs => i < e1.length ∧ E.nx (e1.set i (.o xs))
  | _ => False) (dsOf ws)
theorem vs_ownF {i : Nat} {f : Fc} (h : PS X st (tAsg (tCall (spF Tb f) [] E0 (cA Tb fs)) (gName i))) : VS X Tb st (vOwnF i f fs) :=
  PS.imp h fun D σ H ⟨F, O, env, E, R, h, C⟩ => ⟨F, O, env, _, R, h, fun ws e1 vs H1 R1 r1 g1 h1 => by
    obtain ⟨ds, ed, h1⟩ := vDs_of h1
    refine ⟨hid F O, ds, _, R1.hidS, by rw [List.append_nil]; exact dsOf_dv r1 ed, R1.tb, h1, fun a us xs H2 x hn ha hd h2 => ?_⟩
    exact C.nx _ _ _ _ (R1.adopt h2.1 x hn ha hd) h2.2⟩
/-- x = xs * n, x a list of one's own -/
def vOwnMul (i : Nat) (fa fb : VF) : VG := fun E env => fa env fun w1 e1 => fb e1 fun w2 e2 => vTwo (fun x y k => match x, y with
  | .list xs, .int n => (-(2 ^ 63) ≤ n ∧ n < 2 ^ 63 ∧ xs.length * n.toNat ≤ sizeLine) ∧ i < e2.length ∧ k (.list (List.replicate n.toNat xs).flatten)
  | _, _ => False) (lk e2 w1) (lk e2 w2) fun z => match z with
  | .list zs => E.nx (e2.set i (.o zs))
  | _ => False
theorem vs_ownMul {fa fb : VF} {i : Nat} (h : PS X st (tAsg (tOp rRep (cE Tb fa) (cE Tb fb)) (gName i))) : VS X Tb st (vOwnMul i fa fb) :=
  PS.imp h fun D σ H ⟨F, O, env, E, R, h, C⟩ => ⟨F, O, env, _, R, h, fun w1 e1 v1 H1 R1 rw1 g1 h1 => ⟨F, O, e1, _, R1, h1, fun w2 e2 v2 H2 R2 rw2 g2 h2 => by
    obtain ⟨x, y, ex, ey, h2⟩ := two_of h2
    have d1 := R2.dl (rw1.gr g2) ex
    have d2 := R2.dl rw2 ey
    split at h2
    · obtain ⟨a, us, rfl, ha, da⟩ := d1.list view_vw
      obtain ⟨⟨o1, o2, o3⟩, o4, o5⟩ := h2
      exact ⟨a, _, us, rfl, d2.int, ha, o1, o2, by rw [da.len]; exact o3, fun p hp => C.nx _ _ _ _ (R2.make o4 hp (da.reps _)) o5⟩
    · exact h2.elim⟩⟩
/-! reversed(range(n)) -/
def rrAt (n : Nat) : Nat → Option PyData := fun i => if i < n then some (.int ((n : Int) - 1 - i)) else none
theorem rr_at {n i : Nat} {x : PyData} (h : rrAt n i = some x) : i < n ∧ x = .int ((n - 1 - i : Nat) : Int) := by
  unfold rrAt at h
  split at h
  · cases h
    exact ⟨by assumption, by congr 1; omega⟩
  · cases h
theorem itok_rr {n : Nat} : ItOk [] (Itc (0 + ((n : Nat) : Int) - 1) (-1) n) n (rrAt n) := by
  refine ⟨fun i hi => ⟨_, if_pos hi⟩, fun G H w h i => ⟨fun d hi hd => ⟨hi, fun x H' y => ?_⟩, fun hi => hi⟩⟩
  obtain ⟨rfl, rfl⟩ := y
  unfold rrAt at hd
  rw [if_pos hi] at hd
  cases hd
  rw [show (0 + (n : Int) - 1 + (i : Int) * -1) = (n : Int) - 1 - i by omega]
  exact .inl ⟨rfl, .int _⟩
def iRR (fa : VF) : VIt := fun env k => fa env fun w e => match w with
  | .d (.int j) => (-(2 ^ 62) ≤ j ∧ j < 2 ^ 62) ∧ k (j - 0).toNat (rrAt (j - 0).toNat) e
  | _ => False
theorem vi_rr {fa : VF} {tg iter : Expr} (h : PI X tg iter (iRevR (tRg1 (cE Tb fa)))) : PI X tg iter (cI Tb (iRR fa)) :=
  PI.imp h fun σ H R ⟨F, O, env, k, Rp, h, q⟩ => ⟨F, O, env, _, Rp, h, fun w e1 v H1 R1 r1 gr1 h1 => by
    split at h1
    · rename_i j
      cases r1
      exact ⟨j, rfl, by decide, by decide, h1.1.1, h1.1.2, q _ _ e1 _ H1 [] R1 (fun _ z => nomatch z) itok_rr gr1 h1.2⟩
    · exact h1.elim⟩
end
end Sp
end

section
set_option maxHeartbeats 1000000
/-! return f(..): the new list that a call told is told on. -/
namespace Sp
open PySem PySem.Spec PyProof.Rows L2
section
variable {X : Cx} {Tb : List Addr} {st : Stmt}
def vRetF (i : Nat) (f : Fc) (fs : VA) : VG := fun E env => fs env fun ws e1 => vDs (fun ds => f ds fun r => match r with
  | .list xs => i < e1.length ∧ E.ro (.list xs)
  | _ => False) (dsOf ws)
theorem vs_retF {i : Nat} {f : Fc} {fs : VA} (h : PS X st (tRet (tCall (spF Tb f) [] E0 (cA Tb fs)))) : VS X Tb st (vRetF i f fs) :=
  PS.imp h fun D σ H ⟨F, O, env, E, R, h, C⟩ => ⟨F, O, env, _, R, h, fun ws e1 vs H1 R1 r1 g1 h1 => by
    obtain ⟨ds, ed, h1⟩ := vDs_of h1
    refine ⟨hid F O, ds, _, R1.hidS, by rw [List.append_nil]; exact dsOf_dv r1 ed, R1.tb, h1, fun a us xs H2 x hn ha hd h2 => ?_⟩
    have R2 := R1.adopt h2.1 x hn ha hd
    obtain ⟨v2, e2, b, ws2, rfl, hb, h3, d3⟩ := R2.slot (i := i) (s := .o xs) (List.getElem?_set_self h2.1)
    have eb : b = a := by
      rw [List.getElem?_set_self (R1.len ▸ h2.1)] at e2
      cases e2
      rfl
    subst eb
    rw [ha] at h3
    cases h3
    exact C.ro _ _ _ _ i b us xs R2 hb ha d3 h2.2⟩
end
end Sp
end

section
set_option maxHeartbeats 1000000
/-! {} as a datum; xs[i], xs[j] = (x, y) of an own list. -/
namespace Sp
open PySem PySem.Spec PyProof.Rows L2
section
variable {X : Cx} {Tb : List Addr}
def vDic0 : VF := fun env k => k (.d (.dict [])) env
theorem ve_dic0 {pos : Pos} : VE X Tb (.Dict [] [] pos) vDic0 :=
  PE.imp pe_dnewK fun σ H Q ⟨F, O, env, k, R, h, q⟩ => fun p hp => by
    obtain ⟨R2, r2, g2⟩ := R.res (v := .ref p) (z := .dict []) (.inr ⟨p, .dK [], hp, rfl, .dic upd_same .nil⟩)
    exact q _ _ _ _ R2 r2 g2 h
def vSwap (i : Nat) (fs : VA) (fj fk : VF) : VG := fun E env => fs env fun ws e => match dsOf ws with
  | some [x, y] => (match e[i]? with
    | some (.o _) => fj e fun w1 e1 => (match w1, e1[i]? with
      | .d (.int n), some (.o xs) => ∃ j, ixN xs.length n = some j ∧ (fk (e1.set i (.o (xs.set j x))) fun w2 e2 => (match w2, e2[i]? with
        | .d (.int m), some (.o zs) => ∃ l, ixN zs.length m = some l ∧ E.nx (e2.set i (.o (zs.set l y)))
        | _, _ => False))
      | _, _ => False)
    | _ => False)
  | _ => False
theorem vs_swap {i : Nat} {fs : VA} {fj fk : VF} {st : Stmt} (h : PS X st (tAsg (tTup (cA Tb fs)) (gTup X.K 2 (gCons (gSub (tVar i) (cE Tb fj) rSetL) (gCons (gSub (tVar i) (cE Tb fk) rSetL) gNil))))) : VS X Tb st (vSwap i fs fj fk) :=
  PS.imp h fun D σ H ⟨F, O, env, E, R, h, C⟩ => ⟨F, O, env, _, R, h, fun ws e1 vs H1 R1 r1 gr1 h1 => by
    split at h1
    · rename_i x y ed
      have d := dsOf_dv r1 ed
      cases d with
      | @cons v _ _ _ dx d2 =>
        cases d2 with
        | @cons u _ _ _ dy d3 =>
          cases d3
          refine ⟨Nat.le_trans (show [v, u].length ≤ 2 from Nat.le_refl 2) (by decide), fun p hp => ?_⟩
          obtain ⟨R2, g2⟩ := R1.grow (Ex.new (C := []) (o := .tup [v, u]) hp)
          refine ⟨p, _, rfl, sqt upd_same, rfl, v, [u], rfl, ?_⟩
          split at h1
          · rename_i zs ez
            obtain ⟨_, hu, a, vs, rfl, ho, ha, _⟩ := R2.slot ez
            refine ⟨_, hu, F, O, e1, _, R2, h1, fun w2 e2 v2 H2 R3 r3 gr3 h2 => ?_⟩
            split at h2
            · rename_i n xs ex
              cases r3
              obtain ⟨j, hj, h2⟩ := h2
              obtain ⟨_, hu2, b, ws, rfl, hb, hl, dl⟩ := R3.slot ex
              rw [ho] at hb
              cases hb
              refine ⟨a, ws, n, j, rfl, rfl, hl, by rw [dl.len]; exact hj, ?_⟩
              have dx2 := Dv.le (g2.trans gr3).le _ _ dx
              have dy2 := Dv.le (g2.trans gr3).le _ _ dy
              obtain ⟨R4, g4⟩ := R3.write ex ho hl (dl.set dx2 j)
              refine ⟨u, [], rfl, _, hu2, F, O, _, _, R4, h2, fun w3 e3 v3 H3 R5 r5 gr5 h3 => ?_⟩
              split at h3
              · rename_i m ys ey
                cases r5
                obtain ⟨l, hl2, h3⟩ := h3
                obtain ⟨_, _, b2, ws2, rfl, hb2, hl3, dl3⟩ := R5.slot ey
                rw [ho] at hb2
                cases hb2
                refine ⟨a, ws2, m, l, rfl, rfl, hl3, by rw [dl3.len]; exact hl2, ?_⟩
                obtain ⟨R6, g6⟩ := R5.write ey ho hl3 (dl3.set (Dv.le (g4.trans gr5).le _ _ dy2) l)
                exact ⟨rfl, C.nx _ _ _ _ R6 h3⟩
              · exact h3.elim
            · exact h2.elim
          · exact h1.elim
    · exact h1.elim⟩
/-- return [..]: a new list -/
def vRetLst (i : Nat) (fs : VA) : VG := fun E env => fs env fun ws e => vDs (fun ds => ds.length ≤ sizeLine ∧ i < e.length ∧ E.ro (.list ds)) (dsOf ws)
theorem vs_retLst {i : Nat} {fs : VA} {st : Stmt} (h : PS X st (tRet (tLst (cA Tb fs)))) : VS X Tb st (vRetLst i fs) :=
  PS.imp h fun D σ H ⟨F, O, env, E, R, h, C⟩ => ⟨F, O, env, _, R, h, fun ws e1 vs H1 R1 r1 g1 h1 => by
    obtain ⟨ds, ed, h1⟩ := vDs_of h1
    have d := dsOf_dv r1 ed
    refine ⟨by rw [d.len]; exact h1.1, fun p hp => ?_⟩
    have R2 := R1.make h1.2.1 hp d
    obtain ⟨v2, e2, b, ws2, rfl, hb, h3, d3⟩ := R2.slot (i := i) (s := .o ds) (List.getElem?_set_self h1.2.1)
    have eb : b = p := by
      rw [List.getElem?_set_self (R1.len ▸ h1.2.1)] at e2
      cases e2
      rfl
    subst eb
    exact C.ro _ _ _ _ i b ws2 ds R2 hb h3 d3 h1.2.2⟩
end
end Sp
end

section
set_option maxHeartbeats 1000000
/-! {k: v} of two written things. -/
namespace Sp
open PySem PySem.Spec PyProof.Rows L2
section
variable {X : Cx} {Tb : List Addr}
def vDic1 (k v : PyData) : VF := fun env q => q (.d (.dict [(k, v)])) env
theorem ve_dic1 {pos : Pos} {ke vx : Expr} {key : Key} {v : V} {d : PyData} (hk : PE X ke (tC (kV key))) (hv : PE X vx (tC v)) (hd : ∀ G, Dv G v d) : VE X Tb (.Dict [some ke] [vx] pos) (vDic1 (kD key) d) :=
  PE.imp (pe_disp (pps_cons hk hv pps_nil) rfl rfl (by simp) (by show 1 ≤ 15; omega)) fun σ H Q ⟨F, O, env, k, R, h, q⟩ => fun p hp => by
    refine ⟨upd_same, [(key, v)], rfl, (by show 1 ≤ 15; omega), ?_⟩
    have e : mergeK [] [(key, v)] = [(key, v)] := by
      show putK [] key v = _
      rfl
    rw [e, upd_upd]
    obtain ⟨R2, r2, g2⟩ := R.res (v := .ref p) (z := .dict [(kD key, d)]) (.inr ⟨p, .dK [(key, v)], hp, rfl, .dic upd_same (.cons (hd _) .nil)⟩)
    exact q _ _ _ _ R2 r2 g2 h
end
end Sp
end

section
set_option maxHeartbeats 4000000
namespace Sp
open PySem PySem.Spec PyProof.Rows L2
local macro_rules | `(tactic| decreasing_trivial_pre_omega) => `(tactic| ((try simp only [vSeq, vSeqJ, vAsg, vTell, bName, vVar, vC, vOp, vTwo, vOne, vUn, lk, vTOp, wB, vTrue, dTrue, vNot, vAnd, vOr, vAndV, vOrV, vNotV, vB, vIf, vNil, vCons, dsOf, vTup, vLst, vDs, Option.map_some, dI, dSub, dAdd, dMul, dMod, dDiv, dPow, dLt, dLe, dGt, dGe, dEq, dNe, dNeg, dIx, vNoPart, vPart, wI, vSl, dSl, dRev, lks, vCB, dLen, dAbs, dMax2, dMin2, dSum, dMax1, dMin1, dInt1, dListOf, dTupleOf, dSorted, dSortedR, vFn, vFnC, bNil, bCons, bTup, vFrz, vIfS, vRet, vDrop, vOwn, vOwnL, vPopAt, dAll, dAny, vPar, vAug, vApp, vPop, vRevM, vExt, vPut, iL, iT, iR1, iR2, iEn, iZp, vFor, vWhile, vLc, sz, vYes, vD, vChain, vTChain, vIsi, vAll, isInt, isBool, isList, isTuple, dIsN, dNotN, vTFour, vIff, vAllT, isLT, dIn, dNotin, dIs, dIsNot, vSlA, dSlA, vAugS, vTail, vKw, vCount, vTry, vCopy, vIsV, vIsVT, vIsNo, vFnX, calmF, id, vPickX, vInX, vXX, vIsW, vAllZ, vAnyZ, vSumZ, qGen1, qGen2, qLoc, qFree, qInt, qSub, qCmp, qChain, qAnd, qIx, qYes, qTCmp, vNotT, vTry, vCopy, vIsV, vIsVT, vIsNo, vFnX, calmF, id, vPickX, vInX, vXX, vIsW, vAllZ, vAnyZ, vSumZ, qGen1, qGen2, qLoc, qFree, qInt, qSub, qCmp, qChain, qAnd, qIx, qYes, qTCmp, vNotT, vTry, vCopy, vIsV, vIsVT, vIsNo, vFnX, calmF, id, vPickX, vInX, vXX, vIsW, dReprA, dStrA, dEqNil, dNeNil, dMulR, vTry, vCopy, vIsV, vIsVT, vIsNo, vFnX, calmF, id, vPickX, vInX, vXX, vIsW, dReprA, dStrA, dEqNil, dNeNil, dMulR, vDic0, vDic1, kD, vPar3, List.mem_cons, List.not_mem_nil, List.length_cons, List.length_nil, List.getElem?_cons_zero, List.getElem?_cons_succ, List.getElem?_nil, List.set_cons_zero, List.set_cons_succ, unset, back, isOwn, env0, envC, List.map_cons, List.map_nil, List.cons_append, List.nil_append, List.replicate_succ, List.replicate_zero, Nat.reduceAdd, Nat.reduceSub, Nat.reduceLT, Nat.reduceLeDiff, Int.reduceLE, Int.reduceLT, Int.reduceNeg, Int.reduceToNat, Int.reducePow, Int.reduceAdd, Int.reduceSub, Int.reduceMul, Int.cast_ofNat_Int, Int.natCast_zero, Int.reduceEq, not_true_eq_false, not_false_eq_true, false_and, and_false, false_or, or_false, true_or, or_true, Nat.zero_add, Nat.zero_le, true_and, and_true, if_true, if_false, Bool.false_eq_true, Bool.not_true, Bool.not_false, List.all_cons, List.all_nil, Bool.and_true, Bool.true_and, decide_true, Option.getD_some, Option.getD_none, reduceCtorEq, decide_eq_true_eq, Bool.not_eq_true', decide_eq_false_iff_not]); (repeat (refine go ?_; try simp only [vSeq, vSeqJ, vAsg, vTell, bName, vVar, vC, vOp, vTwo, vOne, vUn, lk, vTOp, wB, vTrue, dTrue, vNot, vAnd, vOr, vAndV, vOrV, vNotV, vB, vIf, vNil, vCons, dsOf, vTup, vLst, vDs, Option.map_some, dI, dSub, dAdd, dMul, dMod, dDiv, dPow, dLt, dLe, dGt, dGe, dEq, dNe, dNeg, dIx, vNoPart, vPart, wI, vSl, dSl, dRev, lks, vCB, dLen, dAbs, dMax2, dMin2, dSum, dMax1, dMin1, dInt1, dListOf, dTupleOf, dSorted, dSortedR, vFn, vFnC, bNil, bCons, bTup, vFrz, vIfS, vRet, vDrop, vOwn, vOwnL, vPopAt, dAll, dAny, vPar, vAug, vApp, vPop, vRevM, vExt, vPut, iL, iT, iR1, iR2, iEn, iZp, vFor, vWhile, vLc, sz, vYes, vD, vChain, vTChain, vIsi, vAll, isInt, isBool, isList, isTuple, dIsN, dNotN, vTFour, vIff, vAllT, dIn, dNotin, dIs, dIsNot, vSlA, dSlA, vAugS, vTail, vKw, vCount, vTry, vCopy, vIsV, vIsVT, vIsNo, vFnX, calmF, id, vPickX, vInX, vXX, vIsW, vAllZ, vAnyZ, vSumZ, qGen1, qGen2, qLoc, qFree, qInt, qSub, qCmp, qChain, qAnd, qIx, qYes, qTCmp, vNotT, vTry, vCopy, vIsV, vIsVT, vIsNo, vFnX, calmF, id, vPickX, vInX, vXX, vIsW, vAllZ, vAnyZ, vSumZ, qGen1, qGen2, qLoc, qFree, qInt, qSub, qCmp, qChain, qAnd, qIx, qYes, qTCmp, vNotT, vTry, vCopy, vIsV, vIsVT, vIsNo, vFnX, calmF, id, vPickX, vInX, vXX, vIsW, dReprA, dStrA, dEqNil, dNeNil, dMulR, vTry, vCopy, vIsV, vIsVT, vIsNo, vFnX, calmF, id, vPickX, vInX, vXX, vIsW, dReprA, dStrA, dEqNil, dNeNil, dMulR, vDic0, vDic1, kD, vPar3, List.mem_cons, List.not_mem_nil, List.length_cons, List.length_nil, List.getElem?_cons_zero, List.getElem?_cons_succ, List.getElem?_nil, List.set_cons_zero, List.set_cons_succ, unset, back, isOwn, env0, envC, List.map_cons, List.map_nil, List.cons_append, List.nil_append, List.replicate_succ, List.replicate_zero, Nat.reduceAdd, Nat.reduceSub, Nat.reduceLT, Nat.reduceLeDiff, Int.reduceLE, Int.reduceLT, Int.reduceNeg, Int.reduceToNat, Int.reducePow, Int.reduceAdd, Int.reduceSub, Int.reduceMul, Int.cast_ofNat_Int, Int.natCast_zero, Int.reduceEq, not_true_eq_false, not_false_eq_true, false_and, and_false, false_or, or_false, true_or, or_true, Nat.zero_add, Nat.zero_le, true_and, and_true, if_true, if_false, Bool.false_eq_true, Bool.not_true, Bool.not_false, List.all_cons, List.all_nil, Bool.and_true, Bool.true_and, decide_true, Option.getD_some, Option.getD_none, reduceCtorEq, decide_eq_true_eq, Bool.not_eq_true', decide_eq_false_iff_not]))))

/-- what is handed in -/
def Th (d : PyData) : Prop := Shw 6 12500 d ∧ (∀ xs, d = .list xs → xs.length ≤ 200) ∧ ∀ ns : List Int, d = il ns → ∀ i ∈ ns, -1 ≤ i ∧ i ≤ 400
def El3 (d : PyData) : Prop := Shw 4 40 d ∧ ∀ i, d = .int i → -1 ≤ i ∧ i ≤ 400
theorem th_list {xs : List PyData} (h : ∀ x ∈ xs, El3 x) (hl : xs.length ≤ 200) : Th (.list xs) := by
  refine ⟨(shw_list (n := 4) (b := 40) (c := 12500) (fun d hd => (h d hd).1) (by omega)).mono (by decide) (Nat.le_refl _), fun ys e => (by cases e; exact hl), fun ns e i hi => ?_⟩
  cases e
  exact (h _ (List.mem_map.mpr ⟨i, hi, rfl⟩)).2 i rfl
theorem th_other {d : PyData} (h : Shw 6 12500 d) (hn : ∀ xs, d ≠ .list xs) : Th d := ⟨h, fun xs e => absurd e (hn xs), fun ns e => absurd e (hn _)⟩
theorem el3_int {i : Int} (h : -1 ≤ i ∧ i ≤ 400) : El3 (.int i) := ⟨shw_int (by omega), fun j e => by cases e; exact h⟩
theorem el3_other {d : PyData} (h : Shw 4 40 d) (hn : ∀ i, d ≠ .int i) : El3 d := ⟨h, fun i e => absurd e (hn i)⟩
theorem shw_num3 {i : Int} (h : 0 ≤ i ∧ i < 1000) : Shw 4 40 (.str (PyData.shown (.int i))) := by
  refine shw_str (sms_of _) ?_
  have hlog : i.natAbs.log2 < 10 := by
    by_cases z : i.natAbs = 0
    · rw [z]
      decide
    · exact (Nat.log2_lt z).mpr (Nat.lt_of_lt_of_le (by omega : i.natAbs < 1024) (by decide))
  have q := int_text_length_le (a := i) (k := 10) (by decide) hlog
  have e : (PyData.shown (.int i)).length = (toString i).length := by
    show (Str.ofString (toString i)).length = _
    exact PySem.ofString_length _
  omega
theorem at_use {Q : PyData → Prop} {xs : List PyData} {r : Int} {k : PyData → Prop} (h : ∀ d ∈ xs, Q d) (r0 : 0 ≤ r) (r1 : r < xs.length) (hk : ∀ d, Q d → k d) : dIxL xs r k := by
  obtain ⟨j, rfl⟩ : ∃ j : Nat, r = (j : Int) := ⟨r.toNat, by omega⟩
  have e : xs[j]? = some (xs[j]'(by omega)) := List.getElem?_eq_getElem _
  exact ⟨_, atI_nat e, hk _ (h _ (List.mem_of_getElem? e))⟩
theorem at_end {ns : List Int} (h : 1 ≤ ns.length) : ∃ z ∈ ns, atI (ns.map PyData.int) (-1) = some (.int z) := by
  rcases List.eq_nil_or_concat ns with rfl | ⟨r, q, rfl⟩
  · cases h
  · rw [List.concat_eq_append, List.map_append]
    exact ⟨q, by simp, atI_last _ _⟩
section
variable {P : Program} {w : World} {K : PySem.W.Frag} {mg : Str → Option Value} {base : Heap} {T : Addr} {Tb : List Addr} (D : Ds K mg) (B : Blt mg) (GD : FnOk P w K mg base CX0 2 D.is_days.f D.is_days.fd ["thing"] (spDays K T)) (hT : T ∈ Tb)
include D B GD hT
variable (SM : SysB base)
include SM
abbrev c__law_bent : FcC := fun M ds k => ∃ ns : List Int, ds = [il ns] ∧ 1 ≤ ns.length ∧ ns.length ≤ 60 ∧ (∀ i ∈ ns, 0 ≤ i ∧ i ≤ 300) ∧ M ≤ 900000 ∧ ∀ (d : PyData) M', M' ≤ M + 3 → Th d → k d M'
theorem ok__law_bent : FnG P w K mg base 2 D._law_bent.f D._law_bent.fd ["bag", "nums"] (spC Tb c__law_bent) := by
  let d__law_take := D._law_take
  have G__law_take := (ok__law_take D B GD hT ).mono (show 1 ≤ 1 by decide)
  refine okG D._law_bent.F sc__law_bent (fun vs H Q E h => spC_len (n := 1) h fun M ds k h => ?_) (fun cdv A outer s H vs Q E hgd hr h => run_bodyC (N := ["bag", "nums", "k", "j", "other", "some", "odd"])
    (vss_cons (vs_set (ps_set (i := 2) sc__law_bent.nd rfl (Or.inr rfl) (ve_fnC (pe_d d__law_take G__law_take hr (va_cons (ve_var (pv 0)) (va_cons (ve_callB cv_len (by rfl) B.len PySem.boot_len (va_cons (ve_var (pv 1)) va_nil)) va_nil))))))
      (vss_cons (vs_set (ps_set (i := 3) sc__law_bent.nd rfl (Or.inl rfl) (ve_fnC (pe_d d__law_take G__law_take hr (va_cons (ve_var (pv 0)) (va_cons (ve_callB cv_len (by rfl) B.len PySem.boot_len (va_cons (ve_var (pv 1)) va_nil)) va_nil))))))
      (vss_cons (vs_ownL (ps_set (i := 4) sc__law_bent.nd rfl (Or.inl rfl) (pe_callTy call_list_of (by rfl) B.list (by decide +kernel) (va_cons (ve_var (pv 1)) va_nil))))
      (vss_cons (vs_put (ps_asg (ve_ix (ve_var (pv 1)) (ve_var (pv 3))) (pg_sub (pv 4) (ve_var (pv 2)) set_list)))
      (vss_cons (vs_put (ps_asg (ve_ix (ve_var (pv 1)) (ve_var (pv 2))) (pg_sub (pv 4) (ve_var (pv 3)) set_list)))
      (vss_frz 4 (vss_cons (vs_set (ps_set (i := 5) sc__law_bent.nd rfl (Or.inl rfl) (ve_lst (va_cons (ve_op ov_add (ve_op ov_add (ve_sliceA (ve_var (pv 1)) vo_none (vo_some (ve_var (pv 2)))) (ve_lst (va_cons (ve_op ov_add (ve_ix (ve_var (pv 1)) (ve_var (pv 2))) ve_int) va_nil))) (ve_sliceA (ve_var (pv 1)) (vo_some (ve_op ov_add (ve_var (pv 2)) ve_int)) vo_none)) (va_cons (ve_op ov_add (ve_op ov_add (ve_sliceA (ve_var (pv 1)) vo_none (vo_some (ve_var (pv 2)))) (ve_lst (va_cons (ve_op ov_sub (ve_ix (ve_var (pv 1)) (ve_var (pv 2))) ve_int) va_nil))) (ve_sliceA (ve_var (pv 1)) (vo_some (ve_op ov_add (ve_var (pv 2)) ve_int)) vo_none)) (va_cons (ve_var (pv 4)) va_nil))))))
      (vss_cons (vs_set (ps_set (i := 5) sc__law_bent.nd rfl (Or.inl rfl) (ve_op ov_add (ve_var (pv 5)) (ve_lst (va_cons (ve_op ov_add (ve_sliceA (ve_var (pv 1)) vo_none (vo_some (ve_var (pv 2)))) (ve_sliceA (ve_var (pv 1)) (vo_some (ve_op ov_add (ve_var (pv 2)) ve_int)) vo_none)) (va_cons (ve_op ov_add (ve_op ov_add (ve_sliceA (ve_var (pv 1)) vo_none (vo_some (ve_var (pv 2)))) (ve_sliceA (ve_var (pv 1)) (vo_some (ve_var (pv 2))) (vo_some (ve_op ov_add (ve_var (pv 2)) ve_int)))) (ve_sliceA (ve_var (pv 1)) (vo_some (ve_var (pv 2))) vo_none)) (va_cons (ve_revL (ve_var (pv 1))) (va_cons (ve_var (pv 1)) va_nil))))))))
      (vss_cons (vs_set (ps_set (i := 5) sc__law_bent.nd rfl (Or.inl rfl) (ve_op ov_add (ve_var (pv 5)) (ve_lc (pe_lc (own := [("odd", 6)]) rfl sc__law_bent.nd (vi_list (ve_lst (va_cons ve_bl (va_cons ve_bl (va_cons ve_non (va_cons (ve_callTy (cv_strA SM hgd (Room.u68 hr)) (by rfl) B.str (by decide +kernel) (va_cons (ve_ix (ve_var (pv 1)) (ve_var (pv 2))) va_nil)) (va_cons (ve_lst (va_cons ve_int va_nil)) va_nil))))))) (blkOk_by (N := ["bag", "nums", "k", "j", "other", "some", "odd"]) (sc := defScope s__law_bent) (by decide +kernel)) (fun _ _ _ _ _ => (vg_name (pg_name (i := 6) sc__law_bent.nd rfl (Or.inl rfl)))) (fun _ _ _ _ _ => vts_nil) (fun _ _ _ _ _ => (ve_op ov_add (ve_op ov_add (ve_sliceA (ve_var (pv 1)) vo_none (vo_some (ve_var (pv 2)))) (ve_lst (va_cons (ve_var (pv 6)) va_nil))) (ve_sliceA (ve_var (pv 1)) (vo_some (ve_op ov_add (ve_var (pv 2)) ve_int)) vo_none))))))))
      (vss_cons (vs_set (ps_set (i := 5) sc__law_bent.nd rfl (Or.inl rfl) (ve_op ov_add (ve_var (pv 5)) (ve_lst (va_cons (ve_op ov_add (ve_var (pv 1)) (ve_lst (va_cons ve_int va_nil))) (va_cons (ve_op ov_add (ve_lst (va_cons ve_int va_nil)) (ve_var (pv 1))) (va_cons (ve_op ov_add (ve_var (pv 1)) (ve_lst (va_cons (ve_op ov_add (ve_ix (ve_var (pv 1)) (ve_un uv_neg ve_int)) ve_int) va_nil))) (va_cons (ve_callTy cv_tuple (by rfl) B.tuple (by decide +kernel) (va_cons (ve_var (pv 1)) va_nil)) (va_cons ve_non (va_cons ve_int (va_cons ve_str (va_cons ve_dic0 (va_cons (ve_tup va_nil) (va_cons (ve_lst va_nil) va_nil))))))))))))))
      (vss_one (vs_ret (ve_ix (ve_var (pv 5)) (ve_fnC (pe_d d__law_take G__law_take hr (va_cons (ve_var (pv 0)) (va_cons ve_int va_nil))))))))))))))))) h fun c M ds k h => ?_)
  · obtain ⟨ns, rfl, _⟩ := h
    rfl
  · obtain ⟨ns, rfl, n1, n2, hb, hM, hk⟩ := h
    have ll : (ns.map PyData.int).length = ns.length := List.length_map _
    decreasing_trivial_pre_omega
    refine ⟨_, rfl, by omega, by omega, by omega, fun k0 k00 k01 => ?_⟩
    decreasing_trivial_pre_omega
    refine ⟨_, rfl, by omega, by omega, by omega, fun j0 j00 j01 => ?_⟩
    decreasing_trivial_pre_omega
    obtain ⟨kn, rfl⟩ : ∃ n : Nat, k0 = (n : Int) := ⟨k0.toNat, by omega⟩
    obtain ⟨jn, rfl⟩ : ∃ n : Nat, j0 = (n : Int) := ⟨j0.toNat, by omega⟩
    have ek : (ns.map PyData.int)[kn]? = some (.int (ns[kn]'(by omega))) := by rw [List.getElem?_map, List.getElem?_eq_getElem (by omega : kn < ns.length)]; rfl
    have ej : (ns.map PyData.int)[jn]? = some (.int (ns[jn]'(by omega))) := by rw [List.getElem?_map, List.getElem?_eq_getElem (by omega : jn < ns.length)]; rfl
    have bk := hb _ (List.getElem_mem (by omega : kn < ns.length))
    have bj := hb _ (List.getElem_mem (by omega : jn < ns.length))
    generalize ns[kn]'(by omega) = vk at ek bk
    generalize ns[jn]'(by omega) = vj at ej bj
    have ix : ∀ {xs : List PyData} {j : Nat}, j < xs.length → ixN xs.length (j : Int) = some j := fun {xs j} h => by
      unfold ixN
      rw [if_pos (by omega), if_pos (by omega)]
      rfl
    refine ⟨_, atI_nat ej, kn, ix (by omega), ?_⟩
    decreasing_trivial_pre_omega
    refine ⟨_, atI_nat ek, jn, by rw [List.length_set]; exact ix (by omega), ?_⟩
    decreasing_trivial_pre_omega
    have c1 : cutD (ns.map PyData.int) none (some (kn : Int)) = (ns.map PyData.int).take kn := cutD_to (by omega)
    have c2 : cutD (ns.map PyData.int) (some ((kn : Int) + 1)) none = (ns.map PyData.int).drop (kn + 1) := by
      rw [show ((kn : Int) + 1) = ((kn + 1 : Nat) : Int) by omega]
      exact cutD_from (by omega)
    have c3 : cutD (ns.map PyData.int) (some (kn : Int)) none = (ns.map PyData.int).drop kn := cutD_from (by omega)
    have c4 : cutD (ns.map PyData.int) (some (kn : Int)) (some ((kn : Int) + 1)) = ((ns.map PyData.int).drop kn).take 1 := by
      rw [show ((kn : Int) + 1) = ((kn + 1 : Nat) : Int) by omega, cutD_mid (by omega) (by omega), show kn + 1 - kn = 1 by omega]
    have t1 : ((ns.map PyData.int).take kn).length = kn := by rw [List.length_take]; omega
    have t2 : ((ns.map PyData.int).drop (kn + 1)).length = ns.length - (kn + 1) := by rw [List.length_drop, ll]
    have t3 : ((ns.map PyData.int).drop kn).length = ns.length - kn := by rw [List.length_drop, ll]
    have t4 : (((ns.map PyData.int).drop kn).take 1).length ≤ 1 := by rw [List.length_take]; omega
    rw [c1, c2]
    refine ⟨_, atI_nat ek, ?_⟩
    decreasing_trivial_pre_omega
    refine ⟨le_line (by omega), le_line (by simp only [List.length_append, List.length_singleton]; omega), ?_⟩
    refine ⟨_, atI_nat ek, ?_⟩
    decreasing_trivial_pre_omega
    refine ⟨le_line (by omega), le_line (by simp only [List.length_append, List.length_singleton]; omega), ?_⟩
    decreasing_trivial_pre_omega
    rw [c1, c2, c3, c4]
    refine ⟨le_line (by omega), le_line (by omega), le_line (by simp only [List.length_append]; omega), ?_⟩
    refine ⟨_, atI_nat ek, ?_⟩
    decreasing_trivial_pre_omega
    refine ⟨(shw_int (n := 3) (b := 12) (by omega)).go (by decide) (by decide), ?_⟩
    decreasing_trivial_pre_omega
    refine lc_mapN ([PyData.bool true, .bool false, .none, .str (PyData.shown (.int vk)), .list [.int 0]].map fun x => .list ((ns.map PyData.int).take kn ++ [x] ++ (ns.map PyData.int).drop (kn + 1))) rfl (by decide) rfl (fun q x y Z hq hx hy hZ => ?_) ?_
    · rw [List.getElem?_map] at hy
      obtain ⟨x2, hx2, rfl⟩ := Option.map_eq_some_iff.mp hy
      obtain rfl : x = x2 := Option.some.inj ((show _ = some x from hx).symm.trans hx2)
      decreasing_trivial_pre_omega
      rw [c1, c2]
      refine ⟨le_line (by omega), le_line (by simp only [List.length_append, List.length_singleton]; omega), ?_⟩
      exact hZ _ rfl
    decreasing_trivial_pre_omega
    obtain ⟨vl, ml, el⟩ := at_end (ns := ns) (by omega)
    have bl := hb vl ml
    refine ⟨le_line (by omega), le_line (by omega), ?_⟩
    refine ⟨_, el, ?_⟩
    decreasing_trivial_pre_omega
    refine ⟨le_line (by omega), ?_⟩
    decreasing_trivial_pre_omega
    refine ⟨_, rfl, by omega, by omega, by omega, fun u u0 u1 => ?_⟩
    have em : ∀ x ∈ ns.map PyData.int, El3 x := fun x hx => by
      obtain ⟨i, hi, rfl⟩ := List.mem_map.mp hx
      have := hb i hi
      exact el3_int (by omega)
    have app : ∀ {x : PyData}, El3 x → Th (.list ((ns.map PyData.int).take kn ++ [x] ++ (ns.map PyData.int).drop (kn + 1))) := fun hx => th_list (fun y hy => by
      rcases List.mem_append.mp hy with h | h
      · rcases List.mem_append.mp h with h | h
        · exact em y (List.mem_of_mem_take h)
        · rw [List.mem_singleton.mp h]
          exact hx
      · exact em y (List.mem_of_mem_drop h)) (by simp only [List.length_append, List.length_singleton]; omega)
    refine at_use (Q := Th) (fun d hd => ?_) u0 u1 fun d wd => ⟨_, rfl, hk d _ (by omega) wd⟩
    simp only [List.mem_cons, List.not_mem_nil, or_false] at hd
    rcases hd with rfl | rfl | rfl | rfl | rfl | rfl | rfl | rfl | rfl | rfl | rfl | rfl | rfl | rfl | rfl | rfl | rfl | rfl | rfl | rfl | rfl | rfl
    · exact app (el3_int (by omega))
    · exact app (el3_int (by omega))
    · refine th_list (fun y hy => ?_) (by rw [List.length_set, List.length_set]; omega)
      rcases List.mem_or_eq_of_mem_set hy with h | h
      · rcases List.mem_or_eq_of_mem_set h with h | h
        · exact em y h
        · rw [h]
          exact el3_int (by omega)
      · rw [h]
        exact el3_int (by omega)
    · refine th_list (fun y hy => ?_) (by rw [List.length_append]; omega)
      rcases List.mem_append.mp hy with h | h
      · exact em y (List.mem_of_mem_take h)
      · exact em y (List.mem_of_mem_drop h)
    · refine th_list (fun y hy => ?_) (by simp only [List.length_append]; omega)
      rcases List.mem_append.mp hy with h | h
      · rcases List.mem_append.mp h with h | h
        · exact em y (List.mem_of_mem_take h)
        · exact em y (List.mem_of_mem_drop (List.mem_of_mem_take h))
      · exact em y (List.mem_of_mem_drop h)
    · exact th_list (fun y hy => em y (List.mem_reverse.mp hy)) (by rw [List.length_reverse]; omega)
    · exact th_list em (by omega)
    · exact app (el3_other (shw_bool _) fun _ z => nomatch z)
    · exact app (el3_other (shw_bool _) fun _ z => nomatch z)
    · exact app (el3_other shw_none fun _ z => nomatch z)
    · exact app (el3_other (shw_num3 (by omega)) fun _ z => nomatch z)
    · exact app (el3_other (shw_list (n := 3) (b := 5) (fun d hd => by rw [List.mem_singleton.mp hd]; exact shw_int (by omega)) (by decide)) fun _ z => nomatch z)
    · refine th_list (fun y hy => ?_) (by rw [List.length_append]; show (ns.map PyData.int).length + 1 ≤ 200; omega)
      rcases List.mem_append.mp hy with h | h
      · exact em y h
      · rw [List.mem_singleton.mp h]
        exact el3_int (by omega)
    · refine th_list (fun y hy => ?_) (by rw [List.length_cons]; omega)
      rcases List.mem_cons.mp hy with rfl | h
      · exact el3_int (by omega)
      · exact em y h
    · refine th_list (fun y hy => ?_) (by rw [List.length_append]; show (ns.map PyData.int).length + 1 ≤ 200; omega)
      rcases List.mem_append.mp hy with h | h
      · exact em y h
      · rw [List.mem_singleton.mp h]
        exact el3_int (by omega)
    · exact th_other (shw_tup (n := 5) (b := 40) (fun d hd => (em d hd).1.mono (by decide) (by decide)) (by omega)) fun _ z => nomatch z
    · exact th_other shw_none fun _ z => nomatch z
    · exact th_other (shw_int (by omega)) fun _ z => nomatch z
    · exact th_other (shw_str (sms_of _) (by decide +kernel)) fun _ z => nomatch z
    · exact th_other shw_dic0 fun _ z => nomatch z
    · exact th_other (shw_tup (n := 5) (b := 0) (fun _ z => nomatch z) (by decide)) fun _ z => nomatch z
    · exact th_list (fun _ z => nomatch z) (by decide)
end
end Sp
end

section
set_option maxHeartbeats 4000000
namespace Sp
open PySem PySem.Spec PyProof.Rows L2
local macro_rules | `(tactic| decreasing_trivial_pre_omega) => `(tactic| ((try simp only [vSeq, vSeqJ, vAsg, vTell, bName, vVar, vC, vOp, vTwo, vOne, vUn, lk, vTOp, wB, vTrue, dTrue, vNot, vAnd, vOr, vAndV, vOrV, vNotV, vB, vIf, vNil, vCons, dsOf, vTup, vLst, vDs, Option.map_some, dI, dSub, dAdd, dMul, dMod, dDiv, dPow, dLt, dLe, dGt, dGe, dEq, dNe, dNeg, dIx, vNoPart, vPart, wI, vSl, dSl, dRev, lks, vCB, dLen, dAbs, dMax2, dMin2, dSum, dMax1, dMin1, dInt1, dListOf, dTupleOf, dSorted, dSortedR, vFn, vFnC, bNil, bCons, bTup, vFrz, vIfS, vRet, vDrop, vOwn, vOwnL, vPopAt, dAll, dAny, vPar, vAug, vApp, vPop, vRevM, vExt, vPut, iL, iT, iR1, iR2, iEn, iZp, vFor, vWhile, vLc, sz, vYes, vD, vChain, vTChain, vIsi, vAll, isInt, isBool, isList, isTuple, dIsN, dNotN, vTFour, vIff, vAllT, isLT, dIn, dNotin, dIs, dIsNot, vSlA, dSlA, vAugS, vTail, vKw, vCount, vTry, vCopy, vIsV, vIsVT, vIsNo, vFnX, calmF, id, vPickX, vInX, vXX, vIsW, vAllZ, vAnyZ, vSumZ, qGen1, qGen2, qLoc, qFree, qInt, qSub, qCmp, qChain, qAnd, qIx, qYes, qTCmp, vNotT, vTry, vCopy, vIsV, vIsVT, vIsNo, vFnX, calmF, id, vPickX, vInX, vXX, vIsW, vAllZ, vAnyZ, vSumZ, qGen1, qGen2, qLoc, qFree, qInt, qSub, qCmp, qChain, qAnd, qIx, qYes, qTCmp, vNotT, vTry, vCopy, vIsV, vIsVT, vIsNo, vFnX, calmF, id, vPickX, vInX, vXX, vIsW, dReprA, dStrA, dEqNil, dNeNil, dMulR, vTry, vCopy, vIsV, vIsVT, vIsNo, vFnX, calmF, id, vPickX, vInX, vXX, vIsW, dReprA, dStrA, dEqNil, dNeNil, dMulR, vDic0, vDic1, kD, vTry, vCopy, vIsV, vIsVT, vIsNo, vFnX, calmF, id, vPickX, vInX, vXX, vIsW, dReprA, dStrA, dEqNil, dNeNil, dMulR, vDic0, vDic1, kD, vPar3, List.mem_cons, List.not_mem_nil, List.length_cons, List.length_nil, List.getElem?_cons_zero, List.getElem?_cons_succ, List.getElem?_nil, List.set_cons_zero, List.set_cons_succ, unset, back, isOwn, env0, envC, List.map_cons, List.map_nil, List.cons_append, List.nil_append, List.replicate_succ, List.replicate_zero, Nat.reduceAdd, Nat.reduceSub, Nat.reduceLT, Nat.reduceLeDiff, Int.reduceLE, Int.reduceLT, Int.reduceNeg, Int.reduceToNat, Int.reducePow, Int.reduceAdd, Int.reduceSub, Int.reduceMul, Int.cast_ofNat_Int, Int.natCast_zero, Int.reduceEq, not_true_eq_false, not_false_eq_true, false_and, and_false, false_or, or_false, true_or, or_true, Nat.zero_add, Nat.zero_le, true_and, and_true, if_true, if_false, Bool.false_eq_true, Bool.not_true, Bool.not_false, List.all_cons, List.all_nil, Bool.and_true, Bool.true_and, decide_true, Option.getD_some, Option.getD_none, reduceCtorEq, decide_eq_true_eq, Bool.not_eq_true', decide_eq_false_iff_not]); (repeat (refine go ?_; try simp only [vSeq, vSeqJ, vAsg, vTell, bName, vVar, vC, vOp, vTwo, vOne, vUn, lk, vTOp, wB, vTrue, dTrue, vNot, vAnd, vOr, vAndV, vOrV, vNotV, vB, vIf, vNil, vCons, dsOf, vTup, vLst, vDs, Option.map_some, dI, dSub, dAdd, dMul, dMod, dDiv, dPow, dLt, dLe, dGt, dGe, dEq, dNe, dNeg, dIx, vNoPart, vPart, wI, vSl, dSl, dRev, lks, vCB, dLen, dAbs, dMax2, dMin2, dSum, dMax1, dMin1, dInt1, dListOf, dTupleOf, dSorted, dSortedR, vFn, vFnC, bNil, bCons, bTup, vFrz, vIfS, vRet, vDrop, vOwn, vOwnL, vPopAt, dAll, dAny, vPar, vAug, vApp, vPop, vRevM, vExt, vPut, iL, iT, iR1, iR2, iEn, iZp, vFor, vWhile, vLc, sz, vYes, vD, vChain, vTChain, vIsi, vAll, isInt, isBool, isList, isTuple, dIsN, dNotN, vTFour, vIff, vAllT, dIn, dNotin, dIs, dIsNot, vSlA, dSlA, vAugS, vTail, vKw, vCount, vTry, vCopy, vIsV, vIsVT, vIsNo, vFnX, calmF, id, vPickX, vInX, vXX, vIsW, vAllZ, vAnyZ, vSumZ, qGen1, qGen2, qLoc, qFree, qInt, qSub, qCmp, qChain, qAnd, qIx, qYes, qTCmp, vNotT, vTry, vCopy, vIsV, vIsVT, vIsNo, vFnX, calmF, id, vPickX, vInX, vXX, vIsW, vAllZ, vAnyZ, vSumZ, qGen1, qGen2, qLoc, qFree, qInt, qSub, qCmp, qChain, qAnd, qIx, qYes, qTCmp, vNotT, vTry, vCopy, vIsV, vIsVT, vIsNo, vFnX, calmF, id, vPickX, vInX, vXX, vIsW, dReprA, dStrA, dEqNil, dNeNil, dMulR, vTry, vCopy, vIsV, vIsVT, vIsNo, vFnX, calmF, id, vPickX, vInX, vXX, vIsW, dReprA, dStrA, dEqNil, dNeNil, dMulR, vDic0, vDic1, kD, vTry, vCopy, vIsV, vIsVT, vIsNo, vFnX, calmF, id, vPickX, vInX, vXX, vIsW, dReprA, dStrA, dEqNil, dNeNil, dMulR, vDic0, vDic1, kD, vPar3, List.mem_cons, List.not_mem_nil, List.length_cons, List.length_nil, List.getElem?_cons_zero, List.getElem?_cons_succ, List.getElem?_nil, List.set_cons_zero, List.set_cons_succ, unset, back, isOwn, env0, envC, List.map_cons, List.map_nil, List.cons_append, List.nil_append, List.replicate_succ, List.replicate_zero, Nat.reduceAdd, Nat.reduceSub, Nat.reduceLT, Nat.reduceLeDiff, Int.reduceLE, Int.reduceLT, Int.reduceNeg, Int.reduceToNat, Int.reducePow, Int.reduceAdd, Int.reduceSub, Int.reduceMul, Int.cast_ofNat_Int, Int.natCast_zero, Int.reduceEq, not_true_eq_false, not_false_eq_true, false_and, and_false, false_or, or_false, true_or, or_true, Nat.zero_add, Nat.zero_le, true_and, and_true, if_true, if_false, Bool.false_eq_true, Bool.not_true, Bool.not_false, List.all_cons, List.all_nil, Bool.and_true, Bool.true_and, decide_true, Option.getD_some, Option.getD_none, reduceCtorEq, decide_eq_true_eq, Bool.not_eq_true', decide_eq_false_iff_not]))))

theorem rep_law5 {Tb : List Addr} {H1 H2 : Hp} {a c : Addr} {i : Int} {σ : L2.St} {m : Nat} (h0 : σ[0]? = some (some (.ref a))) (h1 : σ[4]? = some (some (.int i))) (h2 : σ[5]? = some (some (.ref c))) (hl : σ.length = m + 6)
    (e : Ex [] H1 H2) (nc : H1 c = none) (k : CaskAt H2 c 0) (t : ∀ T ∈ Tb, GxR.TabG H2 T) :
    Rep Tb ⟨H1, [], fun _ => False, []⟩ (fun j => if j = 5 then some c else none) σ H2 (.r (.ref a) :: .u :: .u :: .u :: .d (.int i) :: .c c 0 :: List.replicate m .u) := by
  have ow : ∀ {j b}, (fun j => if j = 5 then some c else none : Ow) j = some b → j = 5 ∧ b = c := fun {j b} e => by
    by_cases z : j = 5
    · simp [z] at e
      exact ⟨z, e.symm⟩
    · simp [z] at e
  refine ⟨e, t, by simp [hl], fun j s v e1 e2 => ?_, fun _ z => z.elim, fun j b e1 => ?_, fun j b e1 => ?_, fun _ _ _ z => z.elim, fun j l b e1 e2 => ?_, fun _ z => nomatch z⟩
  · match j, e1, e2 with
    | 0, e1, e2 =>
      cases e1
      rw [h0] at e2
      cases e2
      rfl
    | 1, e1, e2 => cases e1; trivial
    | 2, e1, e2 => cases e1; trivial
    | 3, e1, e2 => cases e1; trivial
    | 4, e1, e2 =>
      cases e1
      rw [h1] at e2
      cases e2
      exact ⟨_, rfl, .int i⟩
    | 5, e1, e2 =>
      cases e1
      rw [h2] at e2
      cases e2
      exact ⟨rfl, rfl, k⟩
    | j + 6, e1, e2 =>
      have e1 : (List.replicate m SV.u)[j]? = some s := e1
      rw [List.getElem?_replicate] at e1
      split at e1
      · cases e1
        trivial
      · cases e1
  · obtain ⟨rfl, rfl⟩ := ow e1
    exact .inr nc
  · obtain ⟨rfl, rfl⟩ := ow e1
    exact .inr ⟨0, rfl⟩
  · obtain ⟨rfl, rfl⟩ := ow e1
    exact (ow e2).1.symm
theorem mir_not {p : Prop} {h : Decidable p} {d : PyData} (n : ¬ p) (e : mirB false d = false) : mirB (@decide p h) d = false := by
  rw [decide_eq_false n]
  exact e
theorem sum_few : ∀ {l : List Int}, (∀ z ∈ l, 0 ≤ z ∧ z ≤ 20) → 0 ≤ l.sum ∧ l.sum ≤ 20 * (l.length : Int)
  | [], _ => by decide
  | z :: l, h => by
    have i := sum_few (l := l) fun y hy => h y (List.mem_cons_of_mem _ hy)
    have := h z List.mem_cons_self
    rw [List.sum_cons, List.length_cons]
    omega
theorem head_f {ns : List Int} (h : ∀ i ∈ ns, -1 ≤ i ∧ i ≤ 400) : ∀ z, (fallsL ns).head? = some z → z ≤ 999 := fun z hz => by
  match ns, h, hz with
  | [], _, hz => cases hz
  | [_], _, hz => cases hz
  | x :: y :: r, h, hz =>
    have hz : some (x - y) = some z := hz
    have := h x (by simp)
    have := h y (by simp)
    have := Option.some.inj hz
    omega
theorem head_r {ns : List Int} (h : ∀ i ∈ ns, -1 ≤ i ∧ i ≤ 400) : ∀ z, (risesL ns).head? = some z → z ≤ 999 := fun z hz => by
  match ns, h, hz with
  | [], _, hz => cases hz
  | [_], _, hz => cases hz
  | x :: y :: r, h, hz =>
    have hz : some (y - x) = some z := hz
    have := h x (by simp)
    have := h y (by simp)
    have := Option.some.inj hz
    omega
theorem eq_two (b : Bool) : ¬ (PyData.list [.bool b, .bool !b]).eqv (.list [.bool b, .bool !b]) = false := by cases b <;> decide
theorem rep_front {Tb : List Addr} {H : Hp} {a : Addr} {σ : L2.St} {m : Nat} (h0 : σ[0]? = some (some (.ref a))) (hl : σ.length = m + 1) (t : ∀ T ∈ Tb, GxR.TabG H T) :
    Rep Tb ⟨H, [], fun _ => False, []⟩ (fun _ => none) σ H (.r (.ref a) :: List.replicate m .u) := by
  refine ⟨Ex.refl _, t, by simp [hl], fun j s v e1 e2 => ?_, fun _ z => z.elim, fun j b e1 => (nomatch e1), fun j b e1 => (nomatch e1), fun _ _ _ z => z.elim, fun j l b e1 e2 => (nomatch e1), fun _ z => (nomatch z)⟩
  match j, e1, e2 with
  | 0, e1, e2 =>
    cases e1
    rw [h0] at e2
    cases e2
    rfl
  | j + 1, e1, e2 =>
    have e1 : (List.replicate m SV.u)[j]? = some s := e1
    rw [List.getElem?_replicate] at e1
    split at e1
    · cases e1
      trivial
    · cases e1
theorem law_front {Tb : List Addr} {g0 g1 : VG} {L : TS} {σ : L2.St} {H : Hp} {D : Ends} {a : Addr} {m : Nat} (h0 : σ[0]? = some (some (.ref a))) (hl : σ.length = m + 1) (t : ∀ T ∈ Tb, GxR.TabG H T)
    (hg : g0 { nx := fun e => g1 { nx := fun e => e[0]? = some (.r (.ref a)) ∧ e.length = m + 1, rt := fun _ _ => False } e, rt := fun _ _ => False } (.r (.ref a) :: List.replicate m .u))
    (next : ∀ σ' H', σ'[0]? = some (some (.ref a)) → σ'.length = m + 1 → Ex [] H H' → L D σ' H') : tSeq (cS Tb g0) (tSeq (cS Tb g1) L) D σ H := by
  refine ⟨_, _, _, _, rep_front h0 hl t, hg, ⟨fun O σ H env R h => ⟨_, O, env, _, R, h, ⟨fun O σ H env R h => ?_, fun O σ H4 env v x R d h => h.elim, fun _ _ _ _ _ h => h.elim, fun _ _ _ _ _ h => h.elim, fun _ _ _ _ _ _ _ _ _ _ _ _ h => h.elim⟩⟩, fun O σ H4 env v x R d h => h.elim, fun _ _ _ _ _ h => h.elim, fun _ _ _ _ _ h => h.elim, fun _ _ _ _ _ _ _ _ _ _ _ _ h => h.elim⟩⟩
  obtain ⟨v, hv, rv⟩ := R.slot h.1
  cases rv
  exact next _ _ hv (R.len.symm.trans h.2) R.ex
theorem law_loopF {K : PySem.W.Frag} {Tb : List Addr} {g : VG} {te : TE} {σ : L2.St} {H : Hp} {D : Ends} {a : Addr} {ns : List Int} {m : Nat} (h0 : σ[0]? = some (some (.ref a))) (hl : σ.length = m + 6) (hS : SqL K H a (ns.map V.int)) (hT : ∀ T ∈ Tb, GxR.TabG H T)
    (hte : ∀ (σ : L2.St) (Q : VK), σ[0]? = some (some (.ref a)) → (∀ j : Int, 0 ≤ j → j ≤ 50 → Q (.int j) H) → te σ H Q)
    (hg : ∀ (c : Addr) (i : Int), g { nx := fun e => e[0]? = some (.r (.ref a)) ∧ e.length = m + 6, ct := fun e => e[0]? = some (.r (.ref a)) ∧ e.length = m + 6, rt := fun _ _ => False } (.r (.ref a) :: .u :: .u :: .u :: .d (.int i) :: .c c 0 :: List.replicate m .u))
    (hq : ∀ H', D.rt (.bl true) H') :
    tSeq (tFor (iRng1 (tCons te tNil)) (gName 4) (tSeq (tAsg (tCall spBag [] E0 (tCons (tCall (spCell K) [] E0 (tCons (tVar 0) (tCons (tVar 4) tNil))) (tCons (tVar 4) tNil))) (gName 5)) (cS Tb g))) (tRet (tC (.bl true))) D σ H := by
  refine hte σ _ h0 fun j j0 j6 => ?_
  · refine ⟨j, rfl, by omega, by omega, for_range (lo := 0) (n := _) (fun i σ H3 => σ[0]? = some (some (.ref a)) ∧ σ.length = m + 6 ∧ Ex [] H H3) ⟨h0, hl, Ex.refl _⟩ ?_ ?_⟩
    · rintro i σ1 H1 hi ⟨g0, gl, e1⟩
      have s0 : (σ1.set 4 (some (.int (0 + (i : Int)))))[0]? = some (some (.ref a)) := by rw [List.getElem?_set_ne (by decide)]; exact g0
      have s1 : (σ1.set 4 (some (.int (0 + (i : Int)))))[4]? = some (some (.int (0 + (i : Int)))) := List.getElem?_set_self (by omega)
      refine ⟨_, s0, _, s1, a, ns, 0 + (i : Int), rfl, e1.seq nm hS, by omega, fun cell => ⟨_, s1, cell, 0 + (i : Int), rfl, by omega, by omega, fun c H2 e2 nc k2 => ?_⟩⟩
      refine ⟨_, _, _, _, rep_law5 (m := m) (a := a) (c := c) (i := 0 + (i : Int)) ?_ ?_ ?_ ?_ e2 nc k2 (fun T h => e2.tab T (e1.tab T (hT T h))), hg c _, ⟨fun O σ H4 env R h => ?_, fun O σ H4 env v x R d h => h.elim, fun _ _ _ _ _ h => h.elim, fun O σ H4 env R h => ?_, fun _ _ _ _ _ _ _ _ _ _ _ _ h => h.elim⟩⟩
      · rw [List.getElem?_set_ne (by decide)]
        exact s0
      · rw [List.getElem?_set_ne (by decide)]
        exact s1
      · exact List.getElem?_set_self (by rw [List.length_set]; omega)
      · rw [List.length_set, List.length_set]
        exact gl
      · obtain ⟨v, hv, rv⟩ := R.slot h.1
        cases rv
        exact ⟨hv, R.len.symm.trans h.2, e1.trans R.ex⟩
      · obtain ⟨v, hv, rv⟩ := R.slot h.1
        cases rv
        exact ⟨hv, R.len.symm.trans h.2, e1.trans R.ex⟩
    · rintro σ1 H1 ⟨g0, gl, e1⟩
      exact hq H1
section
variable {P : Program} {w : World} {K : PySem.W.Frag} {mg : Str → Option Value} {base : Heap} {T : Addr} {Tb : List Addr} (D : Ds K mg) (B : Blt mg) (GD : FnOk P w K mg base CX0 2 D.is_days.f D.is_days.fd ["thing"] (spDays K T)) (hT : T ∈ Tb)
include D B GD hT
theorem ok__law_bag : FnOk P w K mg base CX0 1 D._law_bag.f D._law_bag.fd ["cell", "k"] spBag := okh__law_bag D._law_bag B
theorem ok__law_cell_at : FnOk P w K mg base CX0 1 D._law_cell_at.f D._law_cell_at.fd ["script", "k"] (spCell K) := okh__law_cell_at D._law_cell_at B
variable {tk_MT : Tok} (mg_MOST_TOLD : mg "MOST_TOLD" = some (.int 1000 tk_MT))
include mg_MOST_TOLD
variable (XS : Xs K mg)
include XS
variable (H_need_steps : FnOk P w K mg base (L2.CX P w) 1 D.need_steps.f D.need_steps.fd ["steps"] (spX Tb (cx_need_steps XS)))
include H_need_steps
variable (SM : SysB base)
include SM
theorem ok_law : FnG P w K mg base (6) D.law_.f D.law_.fd ["script"] (spLawV Tb K) := by
  let d__law_bag := D._law_bag
  have G__law_bag := (ok__law_bag D B GD hT ).mono (show 1 ≤ 5 by decide)
  let d__law_cell_at := D._law_cell_at
  have G__law_cell_at := (ok__law_cell_at D B GD hT ).mono (show 1 ≤ 5 by decide)
  let d__law_bent := D._law_bent
  have G__law_bent := (ok__law_bent D B GD hT SM).mono (show 2 ≤ 5 by decide)
  let d__law_asked := D._law_asked
  have G__law_asked := (ok__law_asked D B GD hT mg_MOST_TOLD XS H_need_steps).mono (show 5 ≤ 5 by decide)
  let d__law_is_mirror := D._law_is_mirror
  have G__law_is_mirror := (ok__law_is_mirror D B GD hT ).mono (show 1 ≤ 5 by decide)
  let d__law_take := D._law_take
  have G__law_take := (ok__law_take D B GD hT ).mono (show 1 ≤ 5 by decide)
  refine okG D.law_.F sc_law (fun vs H Q E h => ?_) (fun cdv A outer s H vs Q E hgd hr h => ?_)
  · obtain ⟨a, ns, rfl, _⟩ := h
    rfl
  · obtain ⟨a, ns, rfl, hS, hlen, ht, q⟩ := h
    refine ⟨_, (pss_cons (vs_set (ps_set (i := 1) sc_law.nd rfl (Or.inl rfl) (ve_lst (va_cons (ve_tup (va_cons ve_int (va_cons (ve_lst (va_cons ve_int (va_cons ve_int (va_cons ve_int va_nil)))) va_nil))) (va_cons (ve_tup (va_cons ve_int (va_cons (ve_lst (va_cons ve_int (va_cons ve_int (va_cons ve_int va_nil)))) va_nil))) (va_cons (ve_tup (va_cons ve_int (va_cons (ve_lst (va_cons ve_int (va_cons ve_int (va_cons ve_int va_nil)))) va_nil))) (va_cons (ve_tup (va_cons ve_int (va_cons (ve_lst (va_cons ve_int (va_cons ve_int (va_cons ve_int va_nil)))) va_nil))) va_nil))))))) (pss_cons (vs_if (vt_cmp (ov_neNil (Room.u0 hr)) (ve_lc (pe_lc (own := [("door", 2), ("nums", 3)]) rfl sc_law.nd (vi_list (ve_var (pv 1))) (blkOk_by (N := ["script", "far", "door", "nums", "k", "bag", "turn", "rises", "bests_now", "falls", "thing", "kept", "due", "size", "roof", "rise"]) (sc := defScope s_law) (by decide +kernel)) (fun _ _ _ _ _ => (vg_tup (n := 2) (by rfl) (vgs_cons (vg_name (pg_name (i := 2) sc_law.nd rfl (Or.inl rfl))) (vgs_cons (vg_name (pg_name (i := 3) sc_law.nd rfl (Or.inl rfl))) vgs_nil)))) (fun _ _ _ _ _ => (pts_one (vt_cmp (ov_ne hr.units) (ve_fn (pe_d d__law_asked G__law_asked hr (va_cons (ve_var (pv 2)) (va_cons (ve_var (pv 3)) va_nil)))) (ve_lst (va_cons ve_bl (va_cons ve_bl va_nil))) (nomark _)))) (fun _ _ _ _ _ => (ve_var (pv 2))))) (ve_lst va_nil) (nomark _))
        (vss_one (vs_ret ve_bl))
        vss_nil) (pss_cons (ps_for PassesOwn.never rfl (pi_range1 (by rfl) B.range (pa_cons pe_int pa_nil)) (pg_name (i := 4) sc_law.nd rfl (Or.inl rfl)) (pss_cons (ps_set (i := 5) sc_law.nd rfl (Or.inr rfl) (pe_d d__law_bag G__law_bag hr (pa_cons (pe_d d__law_cell_at G__law_cell_at hr (pa_cons (pv 0) (pa_cons (pv 4) pa_nil))) (pa_cons (pv 4) pa_nil)))) (vss_cons (vs_set (ps_set (i := 7) sc_law.nd rfl (Or.inr rfl) (ve_revL (ve_callB cv_sorted (by rfl) B.sorted (by decide +kernel) (va_cons (ve_lc (pe_lc (own := [("turn", 6)]) rfl sc_law.nd (vi_rng1 (pi_range1 (by rfl) B.range (va_cons (ve_fnC (pe_d d__law_take G__law_take hr (va_cons (ve_var (pv 5)) (va_cons ve_int va_nil)))) va_nil))) (blkOk_by (N := ["script", "far", "door", "nums", "k", "bag", "turn", "rises", "bests_now", "falls", "thing", "kept", "due", "size", "roof", "rise"]) (sc := defScope s_law) (by decide +kernel)) (fun _ _ _ _ _ => (vg_name (pg_name (i := 6) sc_law.nd rfl (Or.inl rfl)))) (fun _ _ _ _ _ => vts_nil) (fun _ _ _ _ _ => (ve_op ov_add ve_int (ve_fnC (pe_d d__law_take G__law_take hr (va_cons (ve_var (pv 5)) (va_cons (ve_ix (ve_lst (va_cons ve_int (va_cons ve_int va_nil))) (ve_fnC (pe_d d__law_take G__law_take hr (va_cons (ve_var (pv 5)) (va_cons ve_int va_nil))))) va_nil)))))))) va_nil)))))
        (vss_cons (vs_setLc (ps_setLc (i := 8) (own := [("size", 13)]) rfl sc_law.nd rfl rfl (sw_true rfl rfl rfl (by decide +kernel)) (vi_rng1 (pi_range1 (by rfl) B.range (va_cons (ve_op ov_add (ve_callB cv_len (by rfl) B.len PySem.boot_len (va_cons (ve_var (pv 7)) va_nil)) ve_int) va_nil))) (blkOk_by (N := ["script", "far", "door", "nums", "k", "bag", "turn", "rises", "bests_now", "falls", "thing", "kept", "due", "size", "roof", "rise"]) (sc := defScope s_law) (by decide +kernel)) (fun _ _ _ _ _ => (vg_name (pg_name (i := 13) sc_law.nd rfl (Or.inl rfl)))) (fun _ _ _ _ _ => vts_nil) (fun _ _ _ _ _ => (ve_callB (cv_sum rfl) (by rfl) B.sum (by decide +kernel) (va_cons (ve_sliceA (ve_var (pv 7)) vo_none (vo_some (ve_var (pv 13)))) va_nil)))))
        (vss_cons (vs_setLc (ps_setLc (i := 9) (own := [("roof", 14)]) rfl sc_law.nd rfl rfl (sw_true rfl rfl rfl (by decide +kernel)) (vi_rng1 (pi_range1 (by rfl) B.range (va_cons (ve_op ov_add (ve_callB (cv_max1 rfl) (by rfl) B.max (by decide +kernel) (va_cons (ve_op ov_add (ve_lst (va_cons ve_int va_nil)) (ve_var (pv 7))) va_nil)) ve_int) va_nil))) (blkOk_by (N := ["script", "far", "door", "nums", "k", "bag", "turn", "rises", "bests_now", "falls", "thing", "kept", "due", "size", "roof", "rise"]) (sc := defScope s_law) (by decide +kernel)) (fun _ _ _ _ _ => (vg_name (pg_name (i := 14) sc_law.nd rfl (Or.inr rfl)))) (fun _ _ _ _ _ => vts_nil) (fun _ _ _ _ _ => (ve_callB (cv_sum rfl) (by rfl) B.sum (by decide +kernel) (va_cons (ve_lc (pe_lc (own := [("rise", 15)]) rfl sc_law.nd (vi_list (ve_var (pv 7))) (by exact blkOk_by (N := ["script", "far", "door", "nums", "k", "bag", "turn", "rises", "bests_now", "falls", "thing", "kept", "due", "size", "roof", "rise"]) (sc := relS _ (defScope s_law)) (by decide +kernel)) (fun _ _ _ _ _ => (vg_name (pg_name (i := 15) sc_law.nd rfl (Or.inl rfl)))) (fun _ _ _ _ _ => (pts_one (vt_cmp ov_gt (ve_var (pv 15)) (ve_var (pv 14)) (nomark _)))) (fun _ _ _ _ _ => (ve_op ov_sub (ve_var (pv 15)) (ve_var (pv 14)))))) va_nil)))))
        (vss_one (vs_for PassesOwn.never rfl (vi_rng1 (pi_range1 (by rfl) B.range (va_cons ve_int va_nil))) (vg_name (pg_name (i := 6) sc_law.nd rfl (Or.inl rfl)))
          (vss_one (vs_for PassesOwn.never rfl (vi_list (ve_lst (va_cons (ve_var (pv 8)) (va_cons (ve_var (pv 9)) va_nil)))) (vg_name (pg_name (i := 3) sc_law.nd rfl (Or.inl rfl)))
              (vss_cons (vs_set (ps_set (i := 10) sc_law.nd rfl (Or.inl rfl) (ve_fnC (pe_g d__law_bent G__law_bent hgd hr (va_cons (ve_var (pv 5)) (va_cons (ve_var (pv 3)) va_nil))))))
                (vss_cons (vs_set (ps_set (i := 11) sc_law.nd rfl (Or.inl rfl) (ve_callB (cv_reprA SM hgd (Room.u66 hr)) (by rfl) B.repr (by decide +kernel) (va_cons (ve_var (pv 10)) va_nil))))
                (vss_one (vs_for PassesOwn.never rfl (vi_rng1 (pi_range1 (by rfl) B.range (va_cons ve_int va_nil))) (vg_name (pg_name (i := 2) sc_law.nd rfl (Or.inl rfl)))
                  (vss_cons (vs_set (ps_set (i := 12) sc_law.nd rfl (Or.inl rfl) (ve_fn (pe_d d__law_is_mirror G__law_is_mirror hr (va_cons (ve_var (pv 10)) (va_cons (ve_cmp (ov_eq hr.units) (ve_var (pv 2)) ve_int (nomark _)) va_nil))))))
                    (vss_one (vs_if (PW.pt (vw_or (vt_cmp (ov_ne hr.units) (ve_fn (pe_d d__law_asked G__law_asked hr (va_cons (ve_var (pv 2)) (va_cons (ve_var (pv 10)) va_nil)))) (ve_lst (va_cons (ve_var (pv 12)) (va_cons (ve_not (ve_var (pv 12))) va_nil))) (nomark _)) (vw_or1 (vt_cmp (ov_ne hr.units) (ve_callB (cv_reprA SM hgd (Room.u66 hr)) (by rfl) B.repr (by decide +kernel) (va_cons (ve_var (pv 10)) va_nil)) (ve_var (pv 11)) (nomark _)))))
                      (vss_one (vs_ret ve_bl))
                      vss_nil)))))))))))))))) (pss_one (ps_ret pe_bl))))), law_front (m := 15) (a := a) rfl rfl ht ?_ fun σ' H' s0 sl ex => law_loopF (m := 10) (a := a) (ns := ns) s0 sl (ex.seq nm hS) (fun T h => ex.tab T (ht T h)) (fun σ Q h0 hj => hj _ (by decide) (by decide)) (fun c i => ?_) q⟩
    · decreasing_trivial_pre_omega
      refine lc_filt (fun _ => []) rfl (by decide) rfl (fun i x Zy Zn hi hx hy hn => ?_) ?_
      · have hm := List.mem_of_getElem? (show _ = some x from hx)
        simp only [List.mem_cons, List.not_mem_nil, or_false] at hm
        rcases hm with rfl | rfl | rfl | rfl
        · decreasing_trivial_pre_omega
          refine ⟨0, .list [PyData.int 5000, .int 0, .int 1], rfl, by decide, by decide, fun xs e => by cases e; decide, fun ns e m => absurd m (by decide), fun ns e m => absurd m (by decide), ?_⟩
          decreasing_trivial_pre_omega
          rw [show mirB true (.list [PyData.int 5000, .int 0, .int 1]) = false from by decide]
          refine ⟨⟨rfl, rfl⟩, ?_⟩
          rw [if_neg (by decide)]
          exact hn _ rfl rfl
        · decreasing_trivial_pre_omega
          refine ⟨0, .list [PyData.int 5000, .int 4999, .int 0], rfl, by decide, by decide, fun xs e => by cases e; decide, fun ns e m => absurd m (by decide), fun ns e m => absurd m (by decide), ?_⟩
          decreasing_trivial_pre_omega
          rw [show mirB true (.list [PyData.int 5000, .int 4999, .int 0]) = false from by decide]
          refine ⟨⟨rfl, rfl⟩, ?_⟩
          rw [if_neg (by decide)]
          exact hn _ rfl rfl
        · decreasing_trivial_pre_omega
          refine ⟨1, .list [PyData.int 0, .int 5000, .int 10001], rfl, by decide, by decide, fun xs e => by cases e; decide, fun ns e m => absurd m (by decide), fun ns e m => absurd m (by decide), ?_⟩
          decreasing_trivial_pre_omega
          rw [mir_not (by decide) (show mirB false (.list [PyData.int 0, .int 5000, .int 10001]) = false from by decide)]
          refine ⟨⟨rfl, rfl⟩, ?_⟩
          rw [if_neg (by decide)]
          exact hn _ rfl rfl
        · decreasing_trivial_pre_omega
          refine ⟨1, .list [PyData.int 0, .int 5000, .int 4000], rfl, by decide, by decide, fun xs e => by cases e; decide, fun ns e m => absurd m (by decide), fun ns e m => absurd m (by decide), ?_⟩
          decreasing_trivial_pre_omega
          rw [mir_not (by decide) (show mirB false (.list [PyData.int 0, .int 5000, .int 4000]) = false from by decide)]
          refine ⟨⟨rfl, rfl⟩, ?_⟩
          rw [if_neg (by decide)]
          exact hn _ rfl rfl
      decreasing_trivial_pre_omega
      rw [if_neg (by decide)]
      trivial
    · decreasing_trivial_pre_omega
      refine ⟨_, rfl, by omega, by omega, by omega, fun r r0 r1 => ?_⟩
      decreasing_trivial_pre_omega
      refine ⟨⟨by omega, by omega⟩, ?_⟩
      refine ⟨⟨le_line (by omega), rfl⟩, fun j acc e => ∃ M' ms, e = [.r (.ref a), .u, .u, .u, .d (.int i), .c c M', .u, .u, .u, .u, .u, .u, .u, .u, .u, .u] ∧ acc = List.map PyData.int ms ∧ (∀ z ∈ ms, 1 ≤ z ∧ z ≤ 20) ∧ ms.length = j ∧ M' ≤ 1 + 2 * (j : Int), ⟨_, [], rfl, rfl, (fun _ z => nomatch z), rfl, by omega⟩, ?_, ?_⟩
      · rintro j x acc e hj hx hacc ⟨M', ms, rfl, rfl, hb, hl, hM'⟩
        decreasing_trivial_pre_omega
        refine ⟨_, rfl, by omega, by omega, by omega, fun t t0 t1 => ?_⟩
        obtain ⟨w1, hw1, ew1⟩ := at_2 (a := 3) (b := 20) t0 t1
        refine ⟨_, ew1, ?_⟩
        decreasing_trivial_pre_omega
        refine ⟨_, rfl, by omega, by omega, by omega, fun u u0 u1 => ?_⟩
        decreasing_trivial_pre_omega
        refine ⟨_, ms ++ [1 + u], rfl, by rw [List.map_append]; rfl, fun z hz => ?_, by rw [List.length_append, hl]; rfl, by omega⟩
        rcases List.mem_append.mp hz with h | h
        · exact hb z h
        · rw [List.mem_singleton.mp h]
          omega
      rintro acc e hacc ⟨M1, ms, rfl, rfl, hb, hl, hM1⟩
      decreasing_trivial_pre_omega
      refine ints_of fun ss p1 _ => ?_
      rw [← List.map_reverse]
      obtain ⟨R, hR, Rb, Rl⟩ : ∃ R : List Int, ss.reverse = R ∧ (∀ z ∈ R, 1 ≤ z ∧ z ≤ 20) ∧ R.length ≤ 12 := ⟨_, rfl, fun z hz => hb z (p1.mem_iff.mp (List.mem_reverse.mp hz)), by rw [List.length_reverse, p1.length_eq]; omega⟩
      rw [hR]
      have lR : (R.map PyData.int).length = R.length := List.length_map _
      decreasing_trivial_pre_omega
      refine ⟨⟨by omega, by omega⟩, ?_⟩
      refine ⟨⟨le_line (by omega), rfl⟩, fun j acc e => ∃ fs : List Int, e = [.r (.ref a), .u, .u, .u, .d (.int i), .c c M1, .u, .d (il R), .u, .u, .u, .u, .u, .u, .u, .u] ∧ acc = List.map PyData.int fs ∧ (∀ z ∈ fs, 0 ≤ z ∧ z ≤ 300) ∧ fs.length = j, ⟨[], rfl, rfl, (fun _ z => nomatch z), rfl⟩, ?_, ?_⟩
      · rintro j x acc e hj hx hacc ⟨fs, rfl, rfl, hf, hfl⟩
        obtain ⟨rfl, _⟩ := rng_at hx
        decreasing_trivial_pre_omega
        rw [Int.zero_add, cutD_to (by omega), ← List.map_take]
        refine ints_of ?_
        have sb := sum_few (l := R.take j) fun z hz => by have := Rb z (List.mem_of_mem_take hz); omega
        have tl : (R.take j).length ≤ 12 := by rw [List.length_take]; omega
        refine ⟨fs ++ [(R.take j).sum], by rw [List.map_append]; rfl, fun z hz => ?_, by rw [List.length_append, hfl]; rfl⟩
        rcases List.mem_append.mp hz with h | h
        · exact hf z h
        · rw [List.mem_singleton.mp h]
          omega
      rintro acc e hacc ⟨bn, rfl, rfl, hbn, hbl⟩
      decreasing_trivial_pre_omega
      refine ⟨le_line (by omega), ?_⟩
      rw [show PyData.int 0 :: R.map PyData.int = (0 :: R).map PyData.int from rfl]
      refine ints_of ⟨by simp, fun m m1 m2 => ?_⟩
      have m0 : 0 ≤ m ∧ m ≤ 20 := by
        rcases List.mem_cons.mp m1 with h | h
        · omega
        · have := Rb m h
          omega
      decreasing_trivial_pre_omega
      refine ⟨⟨by omega, by omega⟩, ?_⟩
      refine ⟨⟨le_line (by omega), rfl⟩, fun j acc e => ∃ fs : List Int, e = [.r (.ref a), .u, .u, .u, .d (.int i), .c c M1, .u, .d (il R), .d (il bn), .u, .u, .u, .u, .u, .u, .u] ∧ acc = List.map PyData.int fs ∧ (∀ z ∈ fs, 0 ≤ z ∧ z ≤ 300) ∧ fs.length = j, ⟨[], rfl, rfl, (fun _ z => nomatch z), rfl⟩, ?_, ?_⟩
      · rintro j x acc e hj hx hacc ⟨fs, rfl, rfl, hf, hfl⟩
        obtain ⟨rfl, _⟩ := rng_at hx
        decreasing_trivial_pre_omega
        refine lc_filt (fun n => ((R.take n).filter fun z => decide ((0 : Int) + (j : Int) < z)).map fun z => PyData.int (z - (0 + (j : Int)))) rfl (le_line (by omega)) rfl (fun n y Zy Zn hn hy hyes hno => ?_) ?_
        · obtain ⟨z, rfl, hz⟩ := il_at hy
          have e1 : ((R.take (n + 1)).filter fun z => decide ((0 : Int) + (j : Int) < z)).map (fun z => PyData.int (z - (0 + (j : Int)))) = ((R.take n).filter fun z => decide ((0 : Int) + (j : Int) < z)).map (fun z => PyData.int (z - (0 + (j : Int)))) ++ if (0 : Int) + (j : Int) < z then [PyData.int (z - (0 + (j : Int)))] else [] := by
            rw [take_succ hz, List.filter_append, List.map_append]
            congr 1
            by_cases q : (0 : Int) + (j : Int) < z
            · rw [if_pos q, List.filter_cons_of_pos (p := fun z => decide ((0 : Int) + (j : Int) < z)) (decide_eq_true q)]
              rfl
            · rw [if_neg q, List.filter_cons_of_neg (p := fun z => decide ((0 : Int) + (j : Int) < z)) (fun h => q (of_decide_eq_true h))]
              rfl
          decreasing_trivial_pre_omega
          by_cases q : (0 : Int) + (j : Int) < z
          · rw [if_pos q] at e1 ⊢
            exact hyes _ _ e1 rfl
          · rw [if_neg q] at e1 ⊢
            exact hno _ (e1.trans (List.append_nil _)) rfl
        rw [lR, List.take_length]
        decreasing_trivial_pre_omega
        rw [show (R.filter fun z => decide ((0 : Int) + (j : Int) < z)).map (fun z => PyData.int (z - (0 + (j : Int)))) = ((R.filter fun z => decide ((0 : Int) + (j : Int) < z)).map fun z => z - (0 + (j : Int))).map .int by rw [List.map_map]; rfl]
        refine ints_of ?_
        have sb := sum_few (l := (R.filter fun z => decide ((0 : Int) + (j : Int) < z)).map fun z => z - (0 + (j : Int))) fun y hy => by
          obtain ⟨z, hz, rfl⟩ := List.mem_map.mp hy
          obtain ⟨hz, hq⟩ := List.mem_filter.mp hz
          have := Rb z hz
          have := of_decide_eq_true hq
          omega
        have tl : ((R.filter fun z => decide ((0 : Int) + (j : Int) < z)).map fun z => z - (0 + (j : Int))).length ≤ 12 := by
          rw [List.length_map]
          exact Nat.le_trans (List.length_filter_le _ _) Rl
        generalize ((R.filter fun z => decide ((0 : Int) + (j : Int) < z)).map fun z => z - (0 + (j : Int))) = L at sb tl ⊢
        refine ⟨fs ++ [L.sum], by rw [List.map_append]; rfl, fun z hz => ?_, by rw [List.length_append, hfl]; rfl⟩
        rcases List.mem_append.mp hz with h | h
        · exact hf z h
        · rw [List.mem_singleton.mp h]
          omega
      rintro acc e hacc ⟨fs, rfl, rfl, hfs, hfl⟩
      decreasing_trivial_pre_omega
      refine ⟨fun t e => ∃ M2 s2 s3 s6 s10 s11 s12, e = [.r (.ref a), .u, s2, s3, .d (.int i), .c c M2, s6, .d (il R), .d (il bn), .d (il fs), s10, s11, s12, .u, .u, .u] ∧ M2 ≤ M1 + 6 * (t : Int), ⟨_, _, _, _, _, _, _, rfl, by omega⟩, ?_, ?_⟩
      · rintro t x e ht hx ⟨M2, s2, s3, s6, s10, s11, s12, rfl, hM2⟩
        decreasing_trivial_pre_omega
        refine ⟨fun n e => ∃ M3 s2 s3 s10 s11 s12, e = [.r (.ref a), .u, s2, s3, .d (.int i), .c c M3, .d x, .d (il R), .d (il bn), .d (il fs), s10, s11, s12, .u, .u, .u] ∧ M3 ≤ M2 + 3 * (n : Int), ⟨_, _, _, _, _, _, rfl, by omega⟩, ?_, ?_⟩
        · rintro n y e hn hy ⟨M3, s2, s3, s10, s11, s12, rfl, hM3⟩
          have hm := List.mem_of_getElem? (show _ = some y from hy)
          obtain ⟨ys, rfl, y1, y2, y3⟩ : ∃ ys : List Int, y = il ys ∧ 1 ≤ ys.length ∧ ys.length ≤ 60 ∧ ∀ z ∈ ys, 0 ≤ z ∧ z ≤ 300 := by
            simp only [List.mem_cons, List.not_mem_nil, or_false] at hm
            rcases hm with rfl | rfl
            · exact ⟨bn, rfl, by omega, by omega, hbn⟩
            · exact ⟨fs, rfl, by omega, by omega, hfs⟩
          decreasing_trivial_pre_omega
          refine ⟨ys, rfl, y1, y2, y3, by omega, fun d M4 hM4 th => ?_⟩
          decreasing_trivial_pre_omega
          have rp := th.1.go (by decide) (by decide)
          refine ⟨rp, ?_⟩
          decreasing_trivial_pre_omega
          refine ⟨fun q e => ∃ s2 s12, e = [.r (.ref a), .u, s2, .d (il ys), .d (.int i), .c c M4, .d x, .d (il R), .d (il bn), .d (il fs), .d d, .d (.str d.shown), s12, .u, .u, .u], ⟨_, _, rfl⟩, ?_, ?_⟩
          · rintro q v e hq hv ⟨s2, s12, rfl⟩
            obtain ⟨rfl, _⟩ := rng_at hv
            decreasing_trivial_pre_omega
            refine ⟨d, decide ((0 : Int) + (q : Int) = 0), rfl, fun xs h => by have := th.2.1 xs h; omega, ?_⟩
            decreasing_trivial_pre_omega
            refine ⟨_, d, rfl, by omega, by omega, fun xs h => by have := th.2.1 xs h; omega, fun ns h _ => head_f (th.2.2 ns h), fun ns h _ => head_r (th.2.2 ns h), ?_⟩
            decreasing_trivial_pre_omega
            refine ⟨⟨rfl, rfl⟩, ?_⟩
            rw [if_neg (eq_two _)]
            exact ⟨rp, _, _, rfl⟩
          · rintro e ⟨s2, s12, rfl⟩
            exact ⟨_, _, _, _, _, _, rfl, by omega⟩
        · rintro e ⟨M3, s2, s3, s10, s11, s12, rfl, hM3⟩
          exact ⟨_, _, _, _, _, _, _, rfl, by omega⟩
      · rintro e ⟨M2, s2, s3, s6, s10, s11, s12, rfl, hM2⟩
        exact ⟨rfl, rfl⟩
end
end Sp
end

section
set_option maxHeartbeats 4000000
namespace Sp
open PySem PySem.Spec PyProof.Rows L2
/-! ### what the top has written -/
theorem mk_law {l : PySem.W.OpenLaw} {q : Program} {w : World} {K : PySem.W.Frag} {h : Heap} {mg : Str → Option Value} {tk_MOST_TOLD : Tok} {fa C_TankError C_NoDays C_NoCap C_NoMany C_NoMirror C_NoMost C_TooMany f_is_whole f_is_days f_sums_of f_need_steps f_falls_of_spills f_rises_of_bests f_turned f_bests_of f_spills_of f_days_of f__law_cell_at f__law_bag f__law_take f__law_bent f__law_is_mirror f__law_asked f_law c_is_days T_is_days c_need_steps T_need_steps : Addr} {oc_is_whole kV_is_whole dc_is_whole pm_is_whole cd_is_whole ct_is_whole oc_is_days kV_is_days dc_is_days pm_is_days  ct_is_days oc_sums_of kV_sums_of dc_sums_of pm_sums_of cd_sums_of ct_sums_of oc_need_steps kV_need_steps dc_need_steps pm_need_steps  ct_need_steps oc_falls_of_spills kV_falls_of_spills dc_falls_of_spills pm_falls_of_spills cd_falls_of_spills ct_falls_of_spills oc_rises_of_bests kV_rises_of_bests dc_rises_of_bests pm_rises_of_bests cd_rises_of_bests ct_rises_of_bests oc_turned kV_turned dc_turned pm_turned cd_turned ct_turned oc_bests_of kV_bests_of dc_bests_of pm_bests_of cd_bests_of ct_bests_of oc_spills_of kV_spills_of dc_spills_of pm_spills_of cd_spills_of ct_spills_of oc_days_of kV_days_of dc_days_of pm_days_of cd_days_of ct_days_of oc__law_cell_at kV__law_cell_at dc__law_cell_at pm__law_cell_at cd__law_cell_at ct__law_cell_at oc__law_bag kV__law_bag dc__law_bag pm__law_bag cd__law_bag ct__law_bag oc__law_take kV__law_take dc__law_take pm__law_take cd__law_take ct__law_take oc__law_bent kV__law_bent dc__law_bent pm__law_bent cd__law_bent ct__law_bent oc__law_is_mirror kV__law_is_mirror dc__law_is_mirror pm__law_is_mirror cd__law_is_mirror ct__law_is_mirror oc__law_asked kV__law_asked dc__law_asked pm__law_asked cd__law_asked ct__law_asked oc_law kV_law dc_law pm_law cd_law ct_law e_is_days e_need_steps : Value} {od_is_whole an_is_whole od_is_days an_is_days od_sums_of an_sums_of od_need_steps an_need_steps od_falls_of_spills an_falls_of_spills od_rises_of_bests an_rises_of_bests od_turned an_turned od_bests_of an_bests_of od_spills_of an_spills_of od_days_of an_days_of od__law_cell_at an__law_cell_at od__law_bag an__law_bag od__law_take an__law_take od__law_bent an__law_bent od__law_is_mirror an__law_is_mirror od__law_asked an__law_asked od_law an_law dd_is_days dd_need_steps : Option Addr} {sl_is_whole sl_is_days sl_sums_of sl_need_steps sl_falls_of_spills sl_rises_of_bests sl_turned sl_bests_of sl_spills_of sl_days_of sl__law_cell_at sl__law_bag sl__law_take sl__law_bent sl__law_is_mirror sl__law_asked sl_law sk_is_days sk_need_steps : Array (Option Value)} {vs_is_days vs_need_steps : Array Value}
    (X : K.In h) (G : h.Ns mainGlobals mg) (hfa : mg "law" = some (.ref fa)) (TT : TabsOf q mg h)
    (a_is_whole : PySem.W.nsIn K mainGlobals "is_whole" = some (some (.ref f_is_whole)))
    (l_is_whole : K.lookup f_is_whole = some ⟨oc_is_whole, od_is_whole, .func (PySem.W.fnOf "is_whole" "is_whole" (defArgs s_is_whole) (defBody s_is_whole) (defScope s_is_whole) .none kV_is_whole dc_is_whole pm_is_whole an_is_whole cd_is_whole ct_is_whole), sl_is_whole⟩)
    (g_is_whole : PySem.W.codeIn K cd_is_whole "is_whole" = true)
    (k_is_whole : PySem.W.keepIn K (.ref f_is_whole) = true)
    (a_is_days : PySem.W.nsIn K mainGlobals "is_days" = some (some (.ref f_is_days)))
    (l_is_days : K.lookup f_is_days = some ⟨oc_is_days, od_is_days, .func (PySem.W.fnOf "is_days" "is_days" (defArgs s_is_days) (defBody s_is_days) (defScope s_is_days) .none kV_is_days dc_is_days pm_is_days an_is_days (.ref c_is_days) ct_is_days), sl_is_days⟩)
    (g_is_days : PySem.W.codeIn K (.ref c_is_days) "is_days" = true)
    (k_is_days : PySem.W.keepIn K (.ref f_is_days) = true)
    (a_sums_of : PySem.W.nsIn K mainGlobals "sums_of" = some (some (.ref f_sums_of)))
    (l_sums_of : K.lookup f_sums_of = some ⟨oc_sums_of, od_sums_of, .func (PySem.W.fnOf "sums_of" "sums_of" (defArgs s_sums_of) (defBody s_sums_of) (defScope s_sums_of) .none kV_sums_of dc_sums_of pm_sums_of an_sums_of cd_sums_of ct_sums_of), sl_sums_of⟩)
    (g_sums_of : PySem.W.codeIn K cd_sums_of "sums_of" = true)
    (k_sums_of : PySem.W.keepIn K (.ref f_sums_of) = true)
    (a_need_steps : PySem.W.nsIn K mainGlobals "need_steps" = some (some (.ref f_need_steps)))
    (l_need_steps : K.lookup f_need_steps = some ⟨oc_need_steps, od_need_steps, .func (PySem.W.fnOf "need_steps" "need_steps" (defArgs s_need_steps) (defBody s_need_steps) (defScope s_need_steps) .none kV_need_steps dc_need_steps pm_need_steps an_need_steps (.ref c_need_steps) ct_need_steps), sl_need_steps⟩)
    (g_need_steps : PySem.W.codeIn K (.ref c_need_steps) "need_steps" = true)
    (k_need_steps : PySem.W.keepIn K (.ref f_need_steps) = true)
    (a_falls_of_spills : PySem.W.nsIn K mainGlobals "falls_of_spills" = some (some (.ref f_falls_of_spills)))
    (l_falls_of_spills : K.lookup f_falls_of_spills = some ⟨oc_falls_of_spills, od_falls_of_spills, .func (PySem.W.fnOf "falls_of_spills" "falls_of_spills" (defArgs s_falls_of_spills) (defBody s_falls_of_spills) (defScope s_falls_of_spills) .none kV_falls_of_spills dc_falls_of_spills pm_falls_of_spills an_falls_of_spills cd_falls_of_spills ct_falls_of_spills), sl_falls_of_spills⟩)
    (g_falls_of_spills : PySem.W.codeIn K cd_falls_of_spills "falls_of_spills" = true)
    (k_falls_of_spills : PySem.W.keepIn K (.ref f_falls_of_spills) = true)
    (a_rises_of_bests : PySem.W.nsIn K mainGlobals "rises_of_bests" = some (some (.ref f_rises_of_bests)))
    (l_rises_of_bests : K.lookup f_rises_of_bests = some ⟨oc_rises_of_bests, od_rises_of_bests, .func (PySem.W.fnOf "rises_of_bests" "rises_of_bests" (defArgs s_rises_of_bests) (defBody s_rises_of_bests) (defScope s_rises_of_bests) .none kV_rises_of_bests dc_rises_of_bests pm_rises_of_bests an_rises_of_bests cd_rises_of_bests ct_rises_of_bests), sl_rises_of_bests⟩)
    (g_rises_of_bests : PySem.W.codeIn K cd_rises_of_bests "rises_of_bests" = true)
    (k_rises_of_bests : PySem.W.keepIn K (.ref f_rises_of_bests) = true)
    (a_turned : PySem.W.nsIn K mainGlobals "turned" = some (some (.ref f_turned)))
    (l_turned : K.lookup f_turned = some ⟨oc_turned, od_turned, .func (PySem.W.fnOf "turned" "turned" (defArgs s_turned) (defBody s_turned) (defScope s_turned) .none kV_turned dc_turned pm_turned an_turned cd_turned ct_turned), sl_turned⟩)
    (g_turned : PySem.W.codeIn K cd_turned "turned" = true)
    (k_turned : PySem.W.keepIn K (.ref f_turned) = true)
    (a_bests_of : PySem.W.nsIn K mainGlobals "bests_of" = some (some (.ref f_bests_of)))
    (l_bests_of : K.lookup f_bests_of = some ⟨oc_bests_of, od_bests_of, .func (PySem.W.fnOf "bests_of" "bests_of" (defArgs s_bests_of) (defBody s_bests_of) (defScope s_bests_of) .none kV_bests_of dc_bests_of pm_bests_of an_bests_of cd_bests_of ct_bests_of), sl_bests_of⟩)
    (g_bests_of : PySem.W.codeIn K cd_bests_of "bests_of" = true)
    (k_bests_of : PySem.W.keepIn K (.ref f_bests_of) = true)
    (a_spills_of : PySem.W.nsIn K mainGlobals "spills_of" = some (some (.ref f_spills_of)))
    (l_spills_of : K.lookup f_spills_of = some ⟨oc_spills_of, od_spills_of, .func (PySem.W.fnOf "spills_of" "spills_of" (defArgs s_spills_of) (defBody s_spills_of) (defScope s_spills_of) .none kV_spills_of dc_spills_of pm_spills_of an_spills_of cd_spills_of ct_spills_of), sl_spills_of⟩)
    (g_spills_of : PySem.W.codeIn K cd_spills_of "spills_of" = true)
    (k_spills_of : PySem.W.keepIn K (.ref f_spills_of) = true)
    (a_days_of : PySem.W.nsIn K mainGlobals "days_of" = some (some (.ref f_days_of)))
    (l_days_of : K.lookup f_days_of = some ⟨oc_days_of, od_days_of, .func (PySem.W.fnOf "days_of" "days_of" (defArgs s_days_of) (defBody s_days_of) (defScope s_days_of) .none kV_days_of dc_days_of pm_days_of an_days_of cd_days_of ct_days_of), sl_days_of⟩)
    (g_days_of : PySem.W.codeIn K cd_days_of "days_of" = true)
    (k_days_of : PySem.W.keepIn K (.ref f_days_of) = true)
    (a__law_cell_at : PySem.W.nsIn K mainGlobals "_law_cell_at" = some (some (.ref f__law_cell_at)))
    (l__law_cell_at : K.lookup f__law_cell_at = some ⟨oc__law_cell_at, od__law_cell_at, .func (PySem.W.fnOf "_law_cell_at" "_law_cell_at" (defArgs s__law_cell_at) (defBody s__law_cell_at) (defScope s__law_cell_at) .none kV__law_cell_at dc__law_cell_at pm__law_cell_at an__law_cell_at cd__law_cell_at ct__law_cell_at), sl__law_cell_at⟩)
    (g__law_cell_at : PySem.W.codeIn K cd__law_cell_at "_law_cell_at" = true)
    (k__law_cell_at : PySem.W.keepIn K (.ref f__law_cell_at) = true)
    (a__law_bag : PySem.W.nsIn K mainGlobals "_law_bag" = some (some (.ref f__law_bag)))
    (l__law_bag : K.lookup f__law_bag = some ⟨oc__law_bag, od__law_bag, .func (PySem.W.fnOf "_law_bag" "_law_bag" (defArgs s__law_bag) (defBody s__law_bag) (defScope s__law_bag) .none kV__law_bag dc__law_bag pm__law_bag an__law_bag cd__law_bag ct__law_bag), sl__law_bag⟩)
    (g__law_bag : PySem.W.codeIn K cd__law_bag "_law_bag" = true)
    (k__law_bag : PySem.W.keepIn K (.ref f__law_bag) = true)
    (a__law_take : PySem.W.nsIn K mainGlobals "_law_take" = some (some (.ref f__law_take)))
    (l__law_take : K.lookup f__law_take = some ⟨oc__law_take, od__law_take, .func (PySem.W.fnOf "_law_take" "_law_take" (defArgs s__law_take) (defBody s__law_take) (defScope s__law_take) .none kV__law_take dc__law_take pm__law_take an__law_take cd__law_take ct__law_take), sl__law_take⟩)
    (g__law_take : PySem.W.codeIn K cd__law_take "_law_take" = true)
    (k__law_take : PySem.W.keepIn K (.ref f__law_take) = true)
    (a__law_bent : PySem.W.nsIn K mainGlobals "_law_bent" = some (some (.ref f__law_bent)))
    (l__law_bent : K.lookup f__law_bent = some ⟨oc__law_bent, od__law_bent, .func (PySem.W.fnOf "_law_bent" "_law_bent" (defArgs s__law_bent) (defBody s__law_bent) (defScope s__law_bent) .none kV__law_bent dc__law_bent pm__law_bent an__law_bent cd__law_bent ct__law_bent), sl__law_bent⟩)
    (g__law_bent : PySem.W.codeIn K cd__law_bent "_law_bent" = true)
    (k__law_bent : PySem.W.keepIn K (.ref f__law_bent) = true)
    (a__law_is_mirror : PySem.W.nsIn K mainGlobals "_law_is_mirror" = some (some (.ref f__law_is_mirror)))
    (l__law_is_mirror : K.lookup f__law_is_mirror = some ⟨oc__law_is_mirror, od__law_is_mirror, .func (PySem.W.fnOf "_law_is_mirror" "_law_is_mirror" (defArgs s__law_is_mirror) (defBody s__law_is_mirror) (defScope s__law_is_mirror) .none kV__law_is_mirror dc__law_is_mirror pm__law_is_mirror an__law_is_mirror cd__law_is_mirror ct__law_is_mirror), sl__law_is_mirror⟩)
    (g__law_is_mirror : PySem.W.codeIn K cd__law_is_mirror "_law_is_mirror" = true)
    (k__law_is_mirror : PySem.W.keepIn K (.ref f__law_is_mirror) = true)
    (a__law_asked : PySem.W.nsIn K mainGlobals "_law_asked" = some (some (.ref f__law_asked)))
    (l__law_asked : K.lookup f__law_asked = some ⟨oc__law_asked, od__law_asked, .func (PySem.W.fnOf "_law_asked" "_law_asked" (defArgs s__law_asked) (defBody s__law_asked) (defScope s__law_asked) .none kV__law_asked dc__law_asked pm__law_asked an__law_asked cd__law_asked ct__law_asked), sl__law_asked⟩)
    (g__law_asked : PySem.W.codeIn K cd__law_asked "_law_asked" = true)
    (k__law_asked : PySem.W.keepIn K (.ref f__law_asked) = true)
    (a_law : PySem.W.nsIn K mainGlobals "law" = some (some (.ref f_law)))
    (l_law : K.lookup f_law = some ⟨oc_law, od_law, .func (PySem.W.fnOf "law" "law" (defArgs s_law) (defBody s_law) (defScope s_law) .none kV_law dc_law pm_law an_law cd_law ct_law), sl_law⟩)
    (g_law : PySem.W.codeIn K cd_law "law" = true)
    (k_law : PySem.W.keepIn K (.ref f_law) = true)
    (lc_is_days : K.lookup c_is_days = some ⟨e_is_days, dd_is_days, .fields vs_is_days, sk_is_days⟩)
    (lv_is_days : vs_is_days[11]? = some (.ref T_is_days))
    (nt_is_days : K.lookup T_is_days = none)
    (rc_is_days : ((recsOf q).any fun e => e.name == ("is_days" : Str)) = true)
    (lc_need_steps : K.lookup c_need_steps = some ⟨e_need_steps, dd_need_steps, .fields vs_need_steps, sk_need_steps⟩)
    (lv_need_steps : vs_need_steps[11]? = some (.ref T_need_steps))
    (nt_need_steps : K.lookup T_need_steps = none)
    (rc_need_steps : ((recsOf q).any fun e => e.name == ("need_steps" : Str)) = true)
    (v_MOST_TOLD : PySem.W.nsIn K mainGlobals "MOST_TOLD" = some (some (.int 1000 tk_MOST_TOLD)))
    (xm_TankError : PySem.W.nsIn K mainGlobals "TankError" = some (some (.ref C_TankError)))
    (xk_TankError : PySem.W.keepIn K (.ref C_TankError) = true)
    (xp_TankError : PySem.W.excIn K C_TankError [.type "ValueError", .type "Exception", .type "BaseException", .type "object"] "ValueError.__new__" = true)
    (xb_TankError : PySem.W.subIn K (.ref C_TankError) (.type "BaseException") = some true)
    (xt_TankError : PySem.W.typeIn K (.ref C_TankError) = some (.type "type"))
    (xg_TankError : PySem.W.findIn K (.ref C_TankError) "__getattribute__" = some (some (.builtin "BaseException.__getattribute__")))
    (xq_TankError : PySem.W.findIn K (.ref C_TankError) "__getattr__" = some none)
    (xd_TankError : PySem.W.hasDictIn K C_TankError = true)
    (xa_TankError : PySem.W.findIn K (.ref C_TankError) "__class__" = some (some (.builtin "object.__class__")))
    (xo_TankError : PySem.W.mroIn K C_TankError (.type "object") = some true)
    (xm_NoDays : PySem.W.nsIn K mainGlobals "NoDays" = some (some (.ref C_NoDays)))
    (xk_NoDays : PySem.W.keepIn K (.ref C_NoDays) = true)
    (xp_NoDays : PySem.W.excIn K C_NoDays [.type "ValueError", .type "Exception", .type "BaseException", .type "object"] "ValueError.__new__" = true)
    (xb_NoDays : PySem.W.subIn K (.ref C_NoDays) (.type "BaseException") = some true)
    (xt_NoDays : PySem.W.typeIn K (.ref C_NoDays) = some (.type "type"))
    (xg_NoDays : PySem.W.findIn K (.ref C_NoDays) "__getattribute__" = some (some (.builtin "BaseException.__getattribute__")))
    (xq_NoDays : PySem.W.findIn K (.ref C_NoDays) "__getattr__" = some none)
    (xd_NoDays : PySem.W.hasDictIn K C_NoDays = true)
    (xa_NoDays : PySem.W.findIn K (.ref C_NoDays) "__class__" = some (some (.builtin "object.__class__")))
    (xo_NoDays : PySem.W.mroIn K C_NoDays (.type "object") = some true)
    (xm_NoCap : PySem.W.nsIn K mainGlobals "NoCap" = some (some (.ref C_NoCap)))
    (xk_NoCap : PySem.W.keepIn K (.ref C_NoCap) = true)
    (xp_NoCap : PySem.W.excIn K C_NoCap [.type "ValueError", .type "Exception", .type "BaseException", .type "object"] "ValueError.__new__" = true)
    (xb_NoCap : PySem.W.subIn K (.ref C_NoCap) (.type "BaseException") = some true)
    (xt_NoCap : PySem.W.typeIn K (.ref C_NoCap) = some (.type "type"))
    (xg_NoCap : PySem.W.findIn K (.ref C_NoCap) "__getattribute__" = some (some (.builtin "BaseException.__getattribute__")))
    (xq_NoCap : PySem.W.findIn K (.ref C_NoCap) "__getattr__" = some none)
    (xd_NoCap : PySem.W.hasDictIn K C_NoCap = true)
    (xa_NoCap : PySem.W.findIn K (.ref C_NoCap) "__class__" = some (some (.builtin "object.__class__")))
    (xo_NoCap : PySem.W.mroIn K C_NoCap (.type "object") = some true)
    (xm_NoMany : PySem.W.nsIn K mainGlobals "NoMany" = some (some (.ref C_NoMany)))
    (xk_NoMany : PySem.W.keepIn K (.ref C_NoMany) = true)
    (xp_NoMany : PySem.W.excIn K C_NoMany [.type "ValueError", .type "Exception", .type "BaseException", .type "object"] "ValueError.__new__" = true)
    (xb_NoMany : PySem.W.subIn K (.ref C_NoMany) (.type "BaseException") = some true)
    (xt_NoMany : PySem.W.typeIn K (.ref C_NoMany) = some (.type "type"))
    (xg_NoMany : PySem.W.findIn K (.ref C_NoMany) "__getattribute__" = some (some (.builtin "BaseException.__getattribute__")))
    (xq_NoMany : PySem.W.findIn K (.ref C_NoMany) "__getattr__" = some none)
    (xd_NoMany : PySem.W.hasDictIn K C_NoMany = true)
    (xa_NoMany : PySem.W.findIn K (.ref C_NoMany) "__class__" = some (some (.builtin "object.__class__")))
    (xo_NoMany : PySem.W.mroIn K C_NoMany (.type "object") = some true)
    (xm_NoMirror : PySem.W.nsIn K mainGlobals "NoMirror" = some (some (.ref C_NoMirror)))
    (xk_NoMirror : PySem.W.keepIn K (.ref C_NoMirror) = true)
    (xp_NoMirror : PySem.W.excIn K C_NoMirror [.type "ValueError", .type "Exception", .type "BaseException", .type "object"] "ValueError.__new__" = true)
    (xb_NoMirror : PySem.W.subIn K (.ref C_NoMirror) (.type "BaseException") = some true)
    (xt_NoMirror : PySem.W.typeIn K (.ref C_NoMirror) = some (.type "type"))
    (xg_NoMirror : PySem.W.findIn K (.ref C_NoMirror) "__getattribute__" = some (some (.builtin "BaseException.__getattribute__")))
    (xq_NoMirror : PySem.W.findIn K (.ref C_NoMirror) "__getattr__" = some none)
    (xd_NoMirror : PySem.W.hasDictIn K C_NoMirror = true)
    (xa_NoMirror : PySem.W.findIn K (.ref C_NoMirror) "__class__" = some (some (.builtin "object.__class__")))
    (xo_NoMirror : PySem.W.mroIn K C_NoMirror (.type "object") = some true)
    (xm_NoMost : PySem.W.nsIn K mainGlobals "NoMost" = some (some (.ref C_NoMost)))
    (xk_NoMost : PySem.W.keepIn K (.ref C_NoMost) = true)
    (xp_NoMost : PySem.W.excIn K C_NoMost [.type "ValueError", .type "Exception", .type "BaseException", .type "object"] "ValueError.__new__" = true)
    (xb_NoMost : PySem.W.subIn K (.ref C_NoMost) (.type "BaseException") = some true)
    (xt_NoMost : PySem.W.typeIn K (.ref C_NoMost) = some (.type "type"))
    (xg_NoMost : PySem.W.findIn K (.ref C_NoMost) "__getattribute__" = some (some (.builtin "BaseException.__getattribute__")))
    (xq_NoMost : PySem.W.findIn K (.ref C_NoMost) "__getattr__" = some none)
    (xd_NoMost : PySem.W.hasDictIn K C_NoMost = true)
    (xa_NoMost : PySem.W.findIn K (.ref C_NoMost) "__class__" = some (some (.builtin "object.__class__")))
    (xo_NoMost : PySem.W.mroIn K C_NoMost (.type "object") = some true)
    (xm_TooMany : PySem.W.nsIn K mainGlobals "TooMany" = some (some (.ref C_TooMany)))
    (xn : PySem.W.specialIn K (.builtin "object.__class__") "__get__" = some (some (.builtin "getset_descriptor.__get__")))
    (xy : PySem.W.takesIn K (.builtin "object.__class__") = some true)
    (xv : PySem.W.nsIn K mainGlobals "ValueError" = some none)
    (x_em_NoMirror : PySem.W.exmOne K (.ref C_NoMirror) (.ref C_TankError) = some true)
    (x_kv_NoMirror : PySem.W.kitOne K (.ref C_NoMirror) (.type "ValueError") = some true)
    (x_ki_NoMirror_NoMirror : PySem.W.kitOne K (.ref C_NoMirror) (.ref C_NoMirror) = some true)
    (x_ki_NoMirror_NoCap : PySem.W.kitOne K (.ref C_NoMirror) (.ref C_NoCap) = some false)
    (x_ki_NoMirror_NoDays : PySem.W.kitOne K (.ref C_NoMirror) (.ref C_NoDays) = some false)
    (x_ki_NoMirror_NoMany : PySem.W.kitOne K (.ref C_NoMirror) (.ref C_NoMany) = some false)
    (x_ki_NoMirror_NoMost : PySem.W.kitOne K (.ref C_NoMirror) (.ref C_NoMost) = some false)
    (x_ki_NoMirror_TooMany : PySem.W.kitOne K (.ref C_NoMirror) (.ref C_TooMany) = some false)
    (x_kn_NoMirror : PySem.W.kitOne K (.type "NoneType") (.ref C_NoMirror) = some false)
    (x_kn_NoCap : PySem.W.kitOne K (.type "NoneType") (.ref C_NoCap) = some false)
    (x_kn_NoDays : PySem.W.kitOne K (.type "NoneType") (.ref C_NoDays) = some false)
    (x_kn_NoMany : PySem.W.kitOne K (.type "NoneType") (.ref C_NoMany) = some false)
    (x_kn_NoMost : PySem.W.kitOne K (.type "NoneType") (.ref C_NoMost) = some false)
    (x_kn_TooMany : PySem.W.kitOne K (.type "NoneType") (.ref C_TooMany) = some false)
    (z_isinstance : PySem.W.nsIn K mainGlobals "isinstance" = some none)
    (z_int : PySem.W.nsIn K mainGlobals "int" = some none)
    (z_bool : PySem.W.nsIn K mainGlobals "bool" = some none)
    (z_list : PySem.W.nsIn K mainGlobals "list" = some none)
    (z_all : PySem.W.nsIn K mainGlobals "all" = some none)
    (z_min : PySem.W.nsIn K mainGlobals "min" = some none)
    (z_max : PySem.W.nsIn K mainGlobals "max" = some none)
    (z_sum : PySem.W.nsIn K mainGlobals "sum" = some none)
    (z_len : PySem.W.nsIn K mainGlobals "len" = some none)
    (z_abs : PySem.W.nsIn K mainGlobals "abs" = some none)
    (z_range : PySem.W.nsIn K mainGlobals "range" = some none)
    (z_sorted : PySem.W.nsIn K mainGlobals "sorted" = some none)
    (z_enumerate : PySem.W.nsIn K mainGlobals "enumerate" = some none)
    (z_zip : PySem.W.nsIn K mainGlobals "zip" = some none)
    (z_tuple : PySem.W.nsIn K mainGlobals "tuple" = some none)
    (z_str : PySem.W.nsIn K mainGlobals "str" = some none)
    (z_repr : PySem.W.nsIn K mainGlobals "repr" = some none)
    (z_reversed : PySem.W.nsIn K mainGlobals "reversed" = some none)
    (z_dict : PySem.W.nsIn K mainGlobals "dict" = some none)
    (z_set : PySem.W.nsIn K mainGlobals "set" = some none)
    (z_any : PySem.W.nsIn K mainGlobals "any" = some none)
    (z_type : PySem.W.nsIn K mainGlobals "type" = some none) :
    LawAtM l w K 6 63 "script" mg fa h := by
  have zz : f_law = fa := by
    have z := (PySem.W.mg_of X G a_law).symm.trans hfa
    cases z
    rfl
  subst zz
  have B : Blt mg := ⟨PySem.W.mg_none_of X G z_isinstance, PySem.W.mg_none_of X G z_int, PySem.W.mg_none_of X G z_bool, PySem.W.mg_none_of X G z_list, PySem.W.mg_none_of X G z_all, PySem.W.mg_none_of X G z_min, PySem.W.mg_none_of X G z_max, PySem.W.mg_none_of X G z_sum, PySem.W.mg_none_of X G z_len, PySem.W.mg_none_of X G z_abs, PySem.W.mg_none_of X G z_range, PySem.W.mg_none_of X G z_sorted, PySem.W.mg_none_of X G z_enumerate, PySem.W.mg_none_of X G z_zip, PySem.W.mg_none_of X G z_tuple, PySem.W.mg_none_of X G z_str, PySem.W.mg_none_of X G z_repr, PySem.W.mg_none_of X G z_reversed, PySem.W.mg_none_of X G z_dict, PySem.W.mg_none_of X G z_set, PySem.W.mg_none_of X G z_any, PySem.W.mg_none_of X G z_type⟩
  have F_is_whole := fun_mk (st := s_is_whole) l_is_whole g_is_whole k_is_whole
  let d_is_whole : Df K mg "is_whole" s_is_whole ["thing"] := ⟨f_is_whole, _, F_is_whole, F_is_whole.binds (ps := ["thing"]) fun _ _ _ _ _ _ us hl => match us, hl with | [_], _ => rfl, PySem.W.mg_of X G a_is_whole⟩
  have F_is_days := fun_mk (st := s_is_days) l_is_days g_is_days k_is_days
  let d_is_days : Df K mg "is_days" s_is_days ["thing"] := ⟨f_is_days, _, F_is_days, F_is_days.binds (ps := ["thing"]) fun _ _ _ _ _ _ us hl => match us, hl with | [_], _ => rfl, PySem.W.mg_of X G a_is_days⟩
  have F_sums_of := fun_mk (st := s_sums_of) l_sums_of g_sums_of k_sums_of
  let d_sums_of : Df K mg "sums_of" s_sums_of ["steps"] := ⟨f_sums_of, _, F_sums_of, F_sums_of.binds (ps := ["steps"]) fun _ _ _ _ _ _ us hl => match us, hl with | [_], _ => rfl, PySem.W.mg_of X G a_sums_of⟩
  have F_need_steps := fun_mk (st := s_need_steps) l_need_steps g_need_steps k_need_steps
  let d_need_steps : Df K mg "need_steps" s_need_steps ["steps"] := ⟨f_need_steps, _, F_need_steps, F_need_steps.binds (ps := ["steps"]) fun _ _ _ _ _ _ us hl => match us, hl with | [_], _ => rfl, PySem.W.mg_of X G a_need_steps⟩
  have F_falls_of_spills := fun_mk (st := s_falls_of_spills) l_falls_of_spills g_falls_of_spills k_falls_of_spills
  let d_falls_of_spills : Df K mg "falls_of_spills" s_falls_of_spills ["told"] := ⟨f_falls_of_spills, _, F_falls_of_spills, F_falls_of_spills.binds (ps := ["told"]) fun _ _ _ _ _ _ us hl => match us, hl with | [_], _ => rfl, PySem.W.mg_of X G a_falls_of_spills⟩
  have F_rises_of_bests := fun_mk (st := s_rises_of_bests) l_rises_of_bests g_rises_of_bests k_rises_of_bests
  let d_rises_of_bests : Df K mg "rises_of_bests" s_rises_of_bests ["told"] := ⟨f_rises_of_bests, _, F_rises_of_bests, F_rises_of_bests.binds (ps := ["told"]) fun _ _ _ _ _ _ us hl => match us, hl with | [_], _ => rfl, PySem.W.mg_of X G a_rises_of_bests⟩
  have F_turned := fun_mk (st := s_turned) l_turned g_turned k_turned
  let d_turned : Df K mg "turned" s_turned ["steps"] := ⟨f_turned, _, F_turned, F_turned.binds (ps := ["steps"]) fun _ _ _ _ _ _ us hl => match us, hl with | [_], _ => rfl, PySem.W.mg_of X G a_turned⟩
  have F_bests_of := fun_mk (st := s_bests_of) l_bests_of g_bests_of k_bests_of
  let d_bests_of : Df K mg "bests_of" s_bests_of ["told"] := ⟨f_bests_of, _, F_bests_of, F_bests_of.binds (ps := ["told"]) fun _ _ _ _ _ _ us hl => match us, hl with | [_], _ => rfl, PySem.W.mg_of X G a_bests_of⟩
  have F_spills_of := fun_mk (st := s_spills_of) l_spills_of g_spills_of k_spills_of
  let d_spills_of : Df K mg "spills_of" s_spills_of ["told"] := ⟨f_spills_of, _, F_spills_of, F_spills_of.binds (ps := ["told"]) fun _ _ _ _ _ _ us hl => match us, hl with | [_], _ => rfl, PySem.W.mg_of X G a_spills_of⟩
  have F_days_of := fun_mk (st := s_days_of) l_days_of g_days_of k_days_of
  let d_days_of : Df K mg "days_of" s_days_of ["told"] := ⟨f_days_of, _, F_days_of, F_days_of.binds (ps := ["told"]) fun _ _ _ _ _ _ us hl => match us, hl with | [_], _ => rfl, PySem.W.mg_of X G a_days_of⟩
  have F__law_cell_at := fun_mk (st := s__law_cell_at) l__law_cell_at g__law_cell_at k__law_cell_at
  let d__law_cell_at : Df K mg "_law_cell_at" s__law_cell_at ["script", "k"] := ⟨f__law_cell_at, _, F__law_cell_at, F__law_cell_at.binds (ps := ["script", "k"]) fun _ _ _ _ _ _ us hl => match us, hl with | [_, _], _ => rfl, PySem.W.mg_of X G a__law_cell_at⟩
  have F__law_bag := fun_mk (st := s__law_bag) l__law_bag g__law_bag k__law_bag
  let d__law_bag : Df K mg "_law_bag" s__law_bag ["cell", "k"] := ⟨f__law_bag, _, F__law_bag, F__law_bag.binds (ps := ["cell", "k"]) fun _ _ _ _ _ _ us hl => match us, hl with | [_, _], _ => rfl, PySem.W.mg_of X G a__law_bag⟩
  have F__law_take := fun_mk (st := s__law_take) l__law_take g__law_take k__law_take
  let d__law_take : Df K mg "_law_take" s__law_take ["bag", "size"] := ⟨f__law_take, _, F__law_take, F__law_take.binds (ps := ["bag", "size"]) fun _ _ _ _ _ _ us hl => match us, hl with | [_, _], _ => rfl, PySem.W.mg_of X G a__law_take⟩
  have F__law_bent := fun_mk (st := s__law_bent) l__law_bent g__law_bent k__law_bent
  let d__law_bent : Df K mg "_law_bent" s__law_bent ["bag", "nums"] := ⟨f__law_bent, _, F__law_bent, F__law_bent.binds (ps := ["bag", "nums"]) fun _ _ _ _ _ _ us hl => match us, hl with | [_, _], _ => rfl, PySem.W.mg_of X G a__law_bent⟩
  have F__law_is_mirror := fun_mk (st := s__law_is_mirror) l__law_is_mirror g__law_is_mirror k__law_is_mirror
  let d__law_is_mirror : Df K mg "_law_is_mirror" s__law_is_mirror ["thing", "falling"] := ⟨f__law_is_mirror, _, F__law_is_mirror, F__law_is_mirror.binds (ps := ["thing", "falling"]) fun _ _ _ _ _ _ us hl => match us, hl with | [_, _], _ => rfl, PySem.W.mg_of X G a__law_is_mirror⟩
  have F__law_asked := fun_mk (st := s__law_asked) l__law_asked g__law_asked k__law_asked
  let d__law_asked : Df K mg "_law_asked" s__law_asked ["door", "thing"] := ⟨f__law_asked, _, F__law_asked, F__law_asked.binds (ps := ["door", "thing"]) fun _ _ _ _ _ _ us hl => match us, hl with | [_, _], _ => rfl, PySem.W.mg_of X G a__law_asked⟩
  have F_law := fun_mk (st := s_law) l_law g_law k_law
  let d_law : Df K mg "law" s_law ["script"] := ⟨f_law, _, F_law, F_law.binds (ps := ["script"]) fun _ _ _ _ _ _ us hl => match us, hl with | [_], _ => rfl, PySem.W.mg_of X G a_law⟩
  have t_is_days := tab_of X TT rc_is_days (PySem.W.mg_of X G a_is_days) l_is_days rfl lc_is_days lv_is_days
  have t_need_steps := tab_of X TT rc_need_steps (PySem.W.mg_of X G a_need_steps) l_need_steps rfl lc_need_steps lv_need_steps
  refine ⟨PySem.W.fnOf "law" "law" (defArgs s_law) (defBody s_law) (defScope s_law) .none kV_law dc_law pm_law an_law cd_law ct_law, [(c_is_days, T_is_days), (c_need_steps, T_need_steps)], spLawV [T_is_days, T_need_steps] K, fun p hp => by simp only [List.mem_cons, List.not_mem_nil, or_false] at hp; rcases hp with rfl | rfl; (exact t_is_days.2); (exact t_need_steps.2), fun p hp => by simp only [List.mem_cons, List.not_mem_nil, or_false] at hp; rcases hp with rfl | rfl; (exact nt_is_days); (exact nt_need_steps), fun p hp => by simp only [List.mem_cons, List.not_mem_nil, or_false] at hp; rcases hp with rfl | rfl; (exact t_is_days.1); (exact t_need_steps.1), fun s v => .of_eq rfl, fun H a ns hl hb hT hS => ⟨a, ns, rfl, hS, hl, fun T h => by simp only [List.mem_cons, List.not_mem_nil, or_false] at h; rcases h with h | h; (rw [h]; exact tabg0 (hT (c_is_days, T_is_days) (by simp))); (rw [h]; exact tabg0 (hT (c_need_steps, T_need_steps) (by simp))), fun _ => rfl⟩, fun base KB GB TB SM => ?_⟩
  have TB_is_days := tabB (TB (c_is_days, T_is_days) (by simp))
  have TB_need_steps := tabB (TB (c_need_steps, T_need_steps) (by simp))
  have mg_MOST_TOLD := PySem.W.mg_of X G v_MOST_TOLD
  let D : Ds K mg := ⟨d_is_whole, d_is_days, d_sums_of, d_need_steps, d_falls_of_spills, d_rises_of_bests, d_turned, d_bests_of, d_spills_of, d_days_of, d__law_cell_at, d__law_bag, d__law_take, d__law_bent, d__law_is_mirror, d__law_asked, d_law⟩
  have hT_is_days : T_is_days ∈ [T_is_days, T_need_steps] := by simp
  have hT_need_steps : T_need_steps ∈ [T_is_days, T_need_steps] := by simp
  let XS : Xs K mg := ⟨⟨C_TankError, PySem.W.mg_of X G xm_TankError, xk_TankError, xp_TankError, xb_TankError, xt_TankError, ⟨xg_TankError, xq_TankError, xb_TankError, xd_TankError, xa_TankError, xn, xy, xo_TankError⟩⟩, ⟨C_NoDays, PySem.W.mg_of X G xm_NoDays, xk_NoDays, xp_NoDays, xb_NoDays, xt_NoDays, ⟨xg_NoDays, xq_NoDays, xb_NoDays, xd_NoDays, xa_NoDays, xn, xy, xo_NoDays⟩⟩, ⟨C_NoCap, PySem.W.mg_of X G xm_NoCap, xk_NoCap, xp_NoCap, xb_NoCap, xt_NoCap, ⟨xg_NoCap, xq_NoCap, xb_NoCap, xd_NoCap, xa_NoCap, xn, xy, xo_NoCap⟩⟩, ⟨C_NoMany, PySem.W.mg_of X G xm_NoMany, xk_NoMany, xp_NoMany, xb_NoMany, xt_NoMany, ⟨xg_NoMany, xq_NoMany, xb_NoMany, xd_NoMany, xa_NoMany, xn, xy, xo_NoMany⟩⟩, ⟨C_NoMirror, PySem.W.mg_of X G xm_NoMirror, xk_NoMirror, xp_NoMirror, xb_NoMirror, xt_NoMirror, ⟨xg_NoMirror, xq_NoMirror, xb_NoMirror, xd_NoMirror, xa_NoMirror, xn, xy, xo_NoMirror⟩⟩, ⟨C_NoMost, PySem.W.mg_of X G xm_NoMost, xk_NoMost, xp_NoMost, xb_NoMost, xt_NoMost, ⟨xg_NoMost, xq_NoMost, xb_NoMost, xd_NoMost, xa_NoMost, xn, xy, xo_NoMost⟩⟩, ⟨C_TooMany, PySem.W.mg_of X G xm_TooMany⟩, PySem.W.mg_none_of X G xv, x_em_NoMirror, x_kv_NoMirror, x_ki_NoMirror_NoMirror, x_ki_NoMirror_NoCap, x_ki_NoMirror_NoDays, x_ki_NoMirror_NoMany, x_ki_NoMirror_NoMost, x_ki_NoMirror_TooMany, x_kn_NoMirror, x_kn_NoCap, x_kn_NoDays, x_kn_NoMany, x_kn_NoMost, x_kn_TooMany⟩
  have GD : FnOk l.prog w K mg base CX0 2 D.is_days.f D.is_days.fd ["thing"] (spDays K T_is_days) := okh_days (P := l.prog) (w := w) d_is_whole B TB_is_days l_is_days g_is_days
  have H_need_steps := okhX_need_steps (P := l.prog) (w := w) D B GD hT_is_days XS hT_need_steps TB_need_steps l_need_steps g_need_steps
  exact ok_law D B GD hT_is_days mg_MOST_TOLD XS H_need_steps SM
end Sp
open PySem PySem.W PyProof.Rows
set_option maxRecDepth 100000 in
set_option maxHeartbeats 0 in
theorem PySem.Challenge.cw_spillmirror_k19_no_mirrors_holds : PySem.Challenge.rw_spillmirror_k19_no_mirrors.Holds := by
  w_on; o_law; k_head; (case hw => w_witness2)
  k_fill
  refine Sp.walk_tabsM (l := PySem.Challenge.rw_spillmirror_k19_no_mirrors) (n := 63) (k := 6) (x := "script") (by decide +kernel) rfl (by decide) rfl ⟨rfl, by decide, by decide⟩ (fun w h Y => PySem.W.kIn_of Y) ?F
  case F =>
    intro w mg fa h KX G hmg TT
    refine' Sp.mk_law KX G hmg TT ?a_is_whole ?l_is_whole ?g_is_whole ?k_is_whole ?a_is_days ?l_is_days ?g_is_days ?k_is_days ?a_sums_of ?l_sums_of ?g_sums_of ?k_sums_of ?a_need_steps ?l_need_steps ?g_need_steps ?k_need_steps ?a_falls_of_spills ?l_falls_of_spills ?g_falls_of_spills ?k_falls_of_spills ?a_rises_of_bests ?l_rises_of_bests ?g_rises_of_bests ?k_rises_of_bests ?a_turned ?l_turned ?g_turned ?k_turned ?a_bests_of ?l_bests_of ?g_bests_of ?k_bests_of ?a_spills_of ?l_spills_of ?g_spills_of ?k_spills_of ?a_days_of ?l_days_of ?g_days_of ?k_days_of ?a__law_cell_at ?l__law_cell_at ?g__law_cell_at ?k__law_cell_at ?a__law_bag ?l__law_bag ?g__law_bag ?k__law_bag ?a__law_take ?l__law_take ?g__law_take ?k__law_take ?a__law_bent ?l__law_bent ?g__law_bent ?k__law_bent ?a__law_is_mirror ?l__law_is_mirror ?g__law_is_mirror ?k__law_is_mirror ?a__law_asked ?l__law_asked ?g__law_asked ?k__law_asked ?a_law ?l_law ?g_law ?k_law ?lc_is_days ?lv_is_days ?nt_is_days ?rc_is_days ?lc_need_steps ?lv_need_steps ?nt_need_steps ?rc_need_steps ?v_MOST_TOLD ?xm_TankError ?xk_TankError ?xp_TankError ?xb_TankError ?xt_TankError ?xg_TankError ?xq_TankError ?xd_TankError ?xa_TankError ?xo_TankError ?xm_NoDays ?xk_NoDays ?xp_NoDays ?xb_NoDays ?xt_NoDays ?xg_NoDays ?xq_NoDays ?xd_NoDays ?xa_NoDays ?xo_NoDays ?xm_NoCap ?xk_NoCap ?xp_NoCap ?xb_NoCap ?xt_NoCap ?xg_NoCap ?xq_NoCap ?xd_NoCap ?xa_NoCap ?xo_NoCap ?xm_NoMany ?xk_NoMany ?xp_NoMany ?xb_NoMany ?xt_NoMany ?xg_NoMany ?xq_NoMany ?xd_NoMany ?xa_NoMany ?xo_NoMany ?xm_NoMirror ?xk_NoMirror ?xp_NoMirror ?xb_NoMirror ?xt_NoMirror ?xg_NoMirror ?xq_NoMirror ?xd_NoMirror ?xa_NoMirror ?xo_NoMirror ?xm_NoMost ?xk_NoMost ?xp_NoMost ?xb_NoMost ?xt_NoMost ?xg_NoMost ?xq_NoMost ?xd_NoMost ?xa_NoMost ?xo_NoMost ?xm_TooMany ?xn ?xy ?xv ?x_em_NoMirror ?x_kv_NoMirror ?x_ki_NoMirror_NoMirror ?x_ki_NoMirror_NoCap ?x_ki_NoMirror_NoDays ?x_ki_NoMirror_NoMany ?x_ki_NoMirror_NoMost ?x_ki_NoMirror_TooMany ?x_kn_NoMirror ?x_kn_NoCap ?x_kn_NoDays ?x_kn_NoMany ?x_kn_NoMost ?x_kn_TooMany ?z_isinstance ?z_int ?z_bool ?z_list ?z_all ?z_min ?z_max ?z_sum ?z_len ?z_abs ?z_range ?z_sorted ?z_enumerate ?z_zip ?z_tuple ?z_str ?z_repr ?z_reversed ?z_dict ?z_set ?z_any ?z_type
    (case a_is_whole => k_is)
    (case l_is_whole => k_is)
    (case g_is_whole => k_is)
    (case k_is_whole => k_is)
    (case a_is_days => k_is)
    (case l_is_days => k_is)
    (case g_is_days => k_is)
    (case k_is_days => k_is)
    (case a_sums_of => k_is)
    (case l_sums_of => k_is)
    (case g_sums_of => k_is)
    (case k_sums_of => k_is)
    (case a_need_steps => k_is)
    (case l_need_steps => k_is)
    (case g_need_steps => k_is)
    (case k_need_steps => k_is)
    (case a_falls_of_spills => k_is)
    (case l_falls_of_spills => k_is)
    (case g_falls_of_spills => k_is)
    (case k_falls_of_spills => k_is)
    (case a_rises_of_bests => k_is)
    (case l_rises_of_bests => k_is)
    (case g_rises_of_bests => k_is)
    (case k_rises_of_bests => k_is)
    (case a_turned => k_is)
    (case l_turned => k_is)
    (case g_turned => k_is)
    (case k_turned => k_is)
    (case a_bests_of => k_is)
    (case l_bests_of => k_is)
    (case g_bests_of => k_is)
    (case k_bests_of => k_is)
    (case a_spills_of => k_is)
    (case l_spills_of => k_is)
    (case g_spills_of => k_is)
    (case k_spills_of => k_is)
    (case a_days_of => k_is)
    (case l_days_of => k_is)
    (case g_days_of => k_is)
    (case k_days_of => k_is)
    (case a__law_cell_at => k_is)
    (case l__law_cell_at => k_is)
    (case g__law_cell_at => k_is)
    (case k__law_cell_at => k_is)
    (case a__law_bag => k_is)
    (case l__law_bag => k_is)
    (case g__law_bag => k_is)
    (case k__law_bag => k_is)
    (case a__law_take => k_is)
    (case l__law_take => k_is)
    (case g__law_take => k_is)
    (case k__law_take => k_is)
    (case a__law_bent => k_is)
    (case l__law_bent => k_is)
    (case g__law_bent => k_is)
    (case k__law_bent => k_is)
    (case a__law_is_mirror => k_is)
    (case l__law_is_mirror => k_is)
    (case g__law_is_mirror => k_is)
    (case k__law_is_mirror => k_is)
    (case a__law_asked => k_is)
    (case l__law_asked => k_is)
    (case g__law_asked => k_is)
    (case k__law_asked => k_is)
    (case a_law => k_is)
    (case l_law => k_is)
    (case g_law => k_is)
    (case k_law => k_is)
    (case lc_is_days => k_is)
    (case lv_is_days => rfl)
    (case nt_is_days => rfl)
    (case rc_is_days => decide +kernel)
    (case lc_need_steps => k_is)
    (case lv_need_steps => rfl)
    (case nt_need_steps => rfl)
    (case rc_need_steps => decide +kernel)
    (case v_MOST_TOLD => k_is)
    (case xm_TankError => k_is)
    (case xk_TankError => k_is)
    (case xp_TankError => k_exc)
    (case xb_TankError => k_is)
    (case xt_TankError => k_is)
    (case xg_TankError => k_is)
    (case xq_TankError => k_is)
    (case xd_TankError => k_is)
    (case xa_TankError => k_is)
    (case xo_TankError => k_is)
    (case xm_NoDays => k_is)
    (case xk_NoDays => k_is)
    (case xp_NoDays => k_exc)
    (case xb_NoDays => k_is)
    (case xt_NoDays => k_is)
    (case xg_NoDays => k_is)
    (case xq_NoDays => k_is)
    (case xd_NoDays => k_is)
    (case xa_NoDays => k_is)
    (case xo_NoDays => k_is)
    (case xm_NoCap => k_is)
    (case xk_NoCap => k_is)
    (case xp_NoCap => k_exc)
    (case xb_NoCap => k_is)
    (case xt_NoCap => k_is)
    (case xg_NoCap => k_is)
    (case xq_NoCap => k_is)
    (case xd_NoCap => k_is)
    (case xa_NoCap => k_is)
    (case xo_NoCap => k_is)
    (case xm_NoMany => k_is)
    (case xk_NoMany => k_is)
    (case xp_NoMany => k_exc)
    (case xb_NoMany => k_is)
    (case xt_NoMany => k_is)
    (case xg_NoMany => k_is)
    (case xq_NoMany => k_is)
    (case xd_NoMany => k_is)
    (case xa_NoMany => k_is)
    (case xo_NoMany => k_is)
    (case xm_NoMirror => k_is)
    (case xk_NoMirror => k_is)
    (case xp_NoMirror => k_exc)
    (case xb_NoMirror => k_is)
    (case xt_NoMirror => k_is)
    (case xg_NoMirror => k_is)
    (case xq_NoMirror => k_is)
    (case xd_NoMirror => k_is)
    (case xa_NoMirror => k_is)
    (case xo_NoMirror => k_is)
    (case xm_NoMost => k_is)
    (case xk_NoMost => k_is)
    (case xp_NoMost => k_exc)
    (case xb_NoMost => k_is)
    (case xt_NoMost => k_is)
    (case xg_NoMost => k_is)
    (case xq_NoMost => k_is)
    (case xd_NoMost => k_is)
    (case xa_NoMost => k_is)
    (case xo_NoMost => k_is)
    (case xm_TooMany => k_is)
    (case xn => k_is)
    (case xy => k_is)
    (case xv => k_is)
    (case x_em_NoMirror => kts_exm)
    (case x_kv_NoMirror => kit_is)
    (case x_ki_NoMirror_NoMirror => kit_is)
    (case x_ki_NoMirror_NoCap => kit_is)
    (case x_ki_NoMirror_NoDays => kit_is)
    (case x_ki_NoMirror_NoMany => kit_is)
    (case x_ki_NoMirror_NoMost => kit_is)
    (case x_ki_NoMirror_TooMany => kit_is)
    (case x_kn_NoMirror => kit_is)
    (case x_kn_NoCap => kit_is)
    (case x_kn_NoDays => kit_is)
    (case x_kn_NoMany => kit_is)
    (case x_kn_NoMost => kit_is)
    (case x_kn_TooMany => kit_is)
    (case z_isinstance => k_is)
    (case z_int => k_is)
    (case z_bool => k_is)
    (case z_list => k_is)
    (case z_all => k_is)
    (case z_min => k_is)
    (case z_max => k_is)
    (case z_sum => k_is)
    (case z_len => k_is)
    (case z_abs => k_is)
    (case z_range => k_is)
    (case z_sorted => k_is)
    (case z_enumerate => k_is)
    (case z_zip => k_is)
    (case z_tuple => k_is)
    (case z_str => k_is)
    (case z_repr => k_is)
    (case z_reversed => k_is)
    (case z_dict => k_is)
    (case z_set => k_is)
    (case z_any => k_is)
    (case z_type => k_is)
#print axioms PySem.Challenge.cw_spillmirror_k19_no_mirrors_holds
end
