import PyProof.Rows.All
import Wide.All
import OpenK.AllK
import Wide.FinOn
import HandS.ForMost
import HandS.AnyAll
import HandS.IsInst
import HandS.EndTab
import HandS.EndOwn
import HandS.Wide
import HandS.Style
import HandS.SortInts
import HandS.SortKw
import PySem.Challenge.RW_spillmirror_k05_whole_one_unit_more
set_option Elab.async false
set_option linter.all false
set_option maxRecDepth 100000
section
set_option maxHeartbeats 4000000
/-! A generator expression over a list, its element a tree that keeps the heap. -/
namespace Sp
open PySem PySem.Spec PyProof.Rows L2
/-- the element of a generator expression: evaluated in the generator's own frame, later than the walked list -/
def EltD (X : Cx) (scp : Scope) (nm : Str) (el : Expr) (Pv : Hp → V → Prop) (G : V → Value → Prop) : Prop :=
  ∀ (ce : Env) (B : Around) (Er : Value → Shared → Prop) (y : V) (v : Value) (pins : List (Addr × Obj)) (σ : L2.St) (H : Hp) (s t : Shared) (m : Str → Option Value),
    ce.scope = scp → ce.globals = mainGlobals → ce.builtins = builtinsNs → B.handled = none → B.depth ≤ X.A.depth + 1 → B.units ≤ X.A.units + 8 → Inv X pins σ H s → Pv H y → RelV y v →
    (∀ b o, (∀ ps, H b ≠ some (.tbl ps)) → s.heap.get? b = some o → t.heap.get? b = some o) → t.heap.Ns ce.locals m → m nm = some v →
    wpAny (model X.prog X.w) B (eval el ce) (fun u t' => G y u ∧ Keeps t t') Er t
section
variable {X : Cx} {pins : List (Addr × Obj)} {σ : L2.St} {H : Hp} {s : Shared}
/-- the generator at g stands ready in z: its answers, one for each of ys, are as G says -/
def ReadyD (X : Cx) (pins : List (Addr × Obj)) (σ : L2.St) (H1 : Hp) (P : Addr) (ys : List V) (G : V → Value → Prop) (g : Addr) (z : Shared) : Prop :=
  ∃ (fp wr : List Addr) (GG : Array GenState → Array GenState → Prop) (F : Nat → Value → Prop) (St : Nat → Shared → Prop),
    WalksS X.prog X.w X.A.in1 g fp wr GG ys.length F St ∧ WalksS X.prog X.w X.A.in1.in1 g fp wr GG ys.length F St ∧ St 0 z ∧ (∀ b ∈ fp, b < z.heap.objs.size) ∧ g ∈ fp ∧ (∀ i z', St i z' → z'.TypeIs (.ref g) "generator") ∧
    (∀ j u, F j u → ∃ y, ys[j]? = some y ∧ G y u) ∧ ∀ z', Moved wr GG z z' → ∃ H2, GxR.Tabbed P H1 H2 ∧ Inv X pins σ H2 z'
theorem gen_list {cd P : Addr} {el it : Expr} {nm : Str} {pn gp : Pos} {scp : Scope} {te : TE} {k : Nat} {Pv : Hp → V → Prop} {G : V → Value → Prop} {Q' : Value → Shared → Prop} {R : Addr → List V → Hp → Prop}
    (room : Room k X.A) (TB : GxR.TabB X.base X.mg cd P) (hcd : X.env.code = .ref cd) (S : GxR.GenS X.env scp nm) (hit : PE X it te) (hel : EltD X scp nm el Pv G)
    (hfold : ∀ v, genFold it X.env v = pure v) (I : Inv X pins σ H s)
    (h : te σ H fun v H1 => ∃ (l : Addr) (ys : List V), v = .ref l ∧ SqL X.K H1 l ys ∧ (∀ y ∈ ys, Pv H1 y) ∧ GxR.TabG H1 P ∧ R l ys H1)
    (hQ : ∀ l ys H1 g z, R l ys H1 → ReadyD X pins σ H1 P ys G g z → Q' (.ref g) z) :
    wpAny (model X.prog X.w) X.A (eval (.GeneratorExp el [⟨.Name nm pn, it, [], 0⟩] scp gp) X.env) Q' X.xe s := by
  refine wpAny_GeneratorExp_walksQD room.hd S.co (closure_ok S.free) S.cell S.dot S.loc S.kind (by have q := room.dp; omega) ?_ hfold
  refine thn (hit.run pins s σ H _ I h) fun xv a ⟨v, H1, J, rv, q⟩ => ?_
  obtain ⟨l, ys, rfl, hl, hP, ⟨ps, hT, tok⟩, hR⟩ := q
  obtain rfl : xv = Value.ref l := rv
  obtain ⟨its, rits, hlist, hzz⟩ := J.list hl
  have isL := hlist.isList
  have hlen : its.length = ys.length := by rw [← rits.length]
  have hat : ∀ (i : Nat) (v : Value), its.toArray[i]? = some v → ∃ y, ys[i]? = some y ∧ RelV y v := fun i v hv => by
    have hv2 : its[i]? = some v := by simpa using hv
    have hi : i < ys.length := by have := (List.getElem?_eq_some_iff.mp hv2).1; omega
    obtain ⟨u, hu, ru⟩ := rits.get (List.getElem?_eq_getElem hi)
    rw [hv2] at hu
    cases hu
    exact ⟨_, List.getElem?_eq_getElem hi, ru⟩
  refine wpAny_pyIter_list isL ?_
  generalize hob : ({ cls := .type "list_iterator", data := .fields #[.ref l, .int 0 0] } : Obj) = ob
  have itr : (a.heap.push ob).IsListIter a.heap.objs.size l 0 := by
    rw [← hob]
    exact ⟨_, Heap.get?_push_size _ rfl, rfl, rfl⟩
  have llt : l < a.heap.objs.size := by
    obtain ⟨_, e, _⟩ := _root_.id isL
    exact Heap.lt_size e
  have tabA : a.heap.get? P = some { cls := .none, data := .fields ps } := J.hok P _ hT
  have Plt : P < a.heap.objs.size := Heap.lt_size tabA
  have tabB : (a.heap.push ob).get? P = some { cls := .none, data := .fields ps } := Heap.get?_push_of_some _ tabA
  have codeHd : PySem.W.CodeHd (a.heap.push ob) cd P := TB.code.keeps fun b u e => Heap.get?_push_of_some _ (J.bk b u e)
  have lim : (a.heap.push ob).NoLimit := J.nolimit.push ob
  have goOn : ∀ (code : Value) (hh : Heap) (tk : Nat) (qs : Array Value), Heap.ExtBut P (a.heap.push ob) hh → (a.heap.push ob).objs.size ≤ hh.objs.size → hh.get? P = some { cls := .none, data := .fields qs } → (∃ more, qs = ps ++ more) → TriplesOk qs.toList →
      wpAny (model X.prog X.w) X.A (builtinsFor X.env.globals X.env.builtins) (fun bi z =>
        ∃ Ia fp wr n₀ Pf St₀ pz F, Value.ref a.heap.objs.size = .ref Ia ∧ (∀ A' : Around, A'.handled = none → Walks X.prog X.w A' Ia fp wr n₀ Pf St₀) ∧ St₀ 0 z.heap ∧ (∀ b ∈ fp, b < z.heap.objs.size) ∧ z.heap.NoLimit ∧ cStatics ∉ wr ∧
          (∀ hr : Heap, (∀ b o, z.heap.get? b = some o → hr.get? b = some o) →
            QuietGenD X.prog X.w (genEnv scp (cloFrom X.env.cells scp.names []) z.heap.objs.size code bi X.env) nm [] el (List.range z.heap.objs.size) wr Pf pz F hr (X.A.depth + 1) (X.A.units + 8)) ∧
          (∀ g h5 tk5 gs, gs.bare = true → z.heap.objs.size < g → h5.objs.size = g + 1 → (∀ b o, z.heap.get? b = some o → h5.get? b = some o) →
            WalksS X.prog X.w X.A.in4 g (g :: z.heap.objs.size :: List.range z.heap.objs.size) (z.heap.objs.size :: wr) (GenOnlyQ z.gens.size) (passing pz n₀ 0).length
              (fun j y => ∃ i, (passing pz n₀ 0)[j]? = some i ∧ F i y) (GenAt X.prog X.w X.A.in4 g z.gens.size z.heap.objs.size (List.range z.heap.objs.size) wr pz n₀ F) →
            GenAt X.prog X.w X.A.in4 g z.gens.size z.heap.objs.size (List.range z.heap.objs.size) wr pz n₀ F 0 { z with gens := z.gens.push gs, toks := tk5, heap := h5 } →
            Q' (.ref g) { z with gens := z.gens.push gs, toks := tk5, heap := h5 })) X.xe { a with heap := hh, toks := tk } := by
    intro code hh tk qs ext big tabC hmore tok2
    obtain ⟨bm, obm, e1, e2, e3, e4, e5, e6, e7, e8⟩ := TB.bm
    have nsP : cStatics ≠ P := fun e => by
      obtain ⟨_, ⟨o', es, ep, ho, hd, _⟩, _⟩ := J.nolimit
      rw [e, tabA] at ho
      cases ho
      cases hd
    have csl : cStatics < a.heap.objs.size := let ⟨_, q, _⟩ := J.nolimit; q.lt
    have szz : (a.heap.push ob).objs.size = a.heap.objs.size + 1 := Heap.size_push ..
    have old : ∀ b u, b ≠ P → a.heap.get? b = some u → hh.get? b = some u := fun b u nb e => ext b u nb (Heap.get?_push_of_some _ e)
    refine wpAny_builtinsFor (m := X.mg) (by rw [J.ok.glob]; exact ((J.mod.glob.keeps J.bk).push ob).extBut ext TB.gP) e1 e2 (old _ _ e4 (J.bk _ _ e5)) e6 e7 e8 ?_
    have lP : l ≠ P := fun e => by
      obtain ⟨_, q, _, _, qd⟩ := _root_.id isL
      rw [e, tabA] at q
      cases q
      cases qd
    have isL2 : hh.IsList l its.toArray := by
      obtain ⟨o, q, r⟩ := _root_.id isL
      exact ⟨o, old _ _ lP q, r⟩
    have itr2 : hh.IsListIter a.heap.objs.size l 0 := itr.at fun u e => ext _ u (Nat.ne_of_gt Plt) e
    refine ⟨a.heap.objs.size, [a.heap.objs.size, l], [a.heap.objs.size], its.toArray.size, (fun i v => its.toArray[i]? = some v), (fun i hp => hp.IsListIter a.heap.objs.size l i ∧ hp.IsList l its.toArray), (fun _ => true),
      (fun i u => ∃ y, ys[i]? = some y ∧ G y u), rfl, (fun A' hA => Walks.list hA _ _ (Nat.ne_of_lt llt) _), ⟨itr2, isL2⟩, ?_, lim.extBut ext nsP, ?_, ?_, ?_⟩
    · intro b hb
      have big2 : a.heap.objs.size < hh.objs.size := by omega
      rcases List.mem_cons.mp hb with e | hb
      · rw [e]; exact big2
      · rcases List.mem_cons.mp hb with e | hb
        · rw [e]; exact Nat.lt_trans llt big2
        · cases hb
    · intro hb
      rcases List.mem_cons.mp hb with e | hb
      · exact Nat.ne_of_lt csl e
      · cases hb
    · intro hr kr
      refine ⟨fun B Er i v t m hB hD hU hv hn hm hk => ?_, fun B Er i v t m hB hD hU hv hp hn hm hk => ?_⟩
      · simp only [List.forIn_nil]
        exact wpAny_pure ⟨rfl, GxR.keeps_refl _⟩
      · obtain ⟨y, hy, ry⟩ := hat i v hv
        refine wpAny_mono (hel _ B Er y v pins σ H1 a t m rfl J.ok.glob rfl hB hD hU J (hP y (List.mem_of_getElem? hy)) ry (fun b o nt e => ?_) hn hm) (fun u t' r => ⟨⟨y, hy, r.1⟩, r.2⟩) fun _ _ e => e
        have bP : b ≠ P := fun q => nt ps (by rw [q]; exact hT)
        have bl := Heap.lt_size e
        have bl2 : b < hh.objs.size := Nat.lt_of_lt_of_le bl (by omega)
        refine hk b (List.mem_range.mpr bl2) (fun q => ?_) o (kr b o (old b o bP e))
        rcases List.mem_cons.mp q with q | q
        · exact Nat.ne_of_lt bl q
        · cases q
    · intro g h5 tk5 gs bare gbig sz5 keep5 W hgen
      simp only [GxR.passing_true, List.length_range] at W
      have n5 : its.toArray.size = ys.length := by rw [List.size_toArray, hlen]
      rw [n5] at W hgen
      refine hQ l ys H1 g _ hR ⟨_, _, _, _, _, W.in4_1, W.in4_2, hgen, ?_, List.mem_cons_self, fun i z' st => ?_, ?_, fun z' mv => ?_⟩
      · intro b hb
        have g1 : hh.objs.size < g := gbig
        have g2 : h5.objs.size = g + 1 := sz5
        show b < h5.objs.size
        rw [g2]
        rcases List.mem_cons.mp hb with e | hb
        · rw [e]; exact Nat.lt_succ_self g
        · rcases List.mem_cons.mp hb with e | hb
          · rw [e]; exact Nat.lt_succ_of_lt g1
          · have q : b < hh.objs.size := List.mem_range.mp hb
            exact Nat.lt_succ_of_lt (Nat.lt_trans q g1)
      · obtain ⟨q, _⟩ := st
        exact q.typeIs
      · intro j u hu
        obtain ⟨i, hij, y, hy, r⟩ := hu
        obtain ⟨hj, ej⟩ := List.getElem?_eq_some_iff.mp hij
        rw [List.getElem_range] at ej
        subst ej
        exact ⟨y, hy, r⟩
      · obtain ⟨more, em⟩ := hmore
        have off : ∀ b u, a.heap.get? b = some u → b ∉ hh.objs.size :: [a.heap.objs.size] := fun b u e hb => by
          have bl := Heap.lt_size e
          rcases List.mem_cons.mp hb with q | q
          · have q2 : hh.objs.size < a.heap.objs.size := by rw [← q]; exact bl
            omega
          · rcases List.mem_cons.mp q with q | q
            · exact Nat.ne_of_lt bl q
            · cases q
        have J2 := GxR.inv_tab (more := more) (h' := z'.heap) (g' := z'.gens) (d' := z'.drawn) (t' := z'.toks) J hT (fun b u nb e => mv.heap b u (off b u e) (keep5 b u (old b u nb e)))
          (by rw [← em]; exact mv.heap P _ (off P _ tabA) (keep5 P _ tabC)) (AllBare.movedS (J.bare.push bare) mv)
        rw [GxR.sh_eta a z' mv.os] at J2
        exact ⟨upd H1 P (.tbl (ps ++ more)), ⟨⟨ps ++ more, upd_same, by rw [← em]; exact tok2⟩, fun b nb => upd_ne nb⟩, J2⟩
  refine ⟨lim, ?_⟩
  cases hf : codeAmong gp ps.toList with
  | none =>
    refine wpAny_genexprCodeX hcd (codeHd.code tabB tok) (codeHd.tab tabB) hf fun c' hh tk hx hge hlt hco' _ htab' _ => ?_
    obtain ⟨_, _, _, _, _, _, _, _, _, _, _, _, _, _, _, _, _, _, _, htr, _⟩ := hco'
    exact goOn _ hh tk _ hx (Nat.le_trans hge (Nat.le_of_lt hlt)) htab'.2 ⟨_, rfl⟩ htr
  | some cv =>
    refine wpAny_genexprCode_hit hcd (codeHd.code tabB tok) hf ?_
    exact goOn cv (a.heap.push ob) a.toks ps (Heap.ExtBut.refl _ _) (Nat.le_refl _) tabB ⟨#[], by simp⟩ tok
end
end Sp
end

section
set_option maxHeartbeats 4000000
namespace Sp
open PySem PySem.Spec PyProof.Rows L2
/-- the kinds of values that a law hands in -/
inductive Plain (H : Hp) : V → Prop where
  | non : Plain H .non
  | bl (b : Bool) : Plain H (.bl b)
  | int (i : Int) : Plain H (.int i)
  | str (z : Str) : Plain H (.str z)
  | lst {a : Addr} {xs : List V} (e : H a = some (.lst xs)) : Plain H (.ref a)
  | frz {a : Addr} {o : Obj} {xs : List V} (e : H a = some (.frz o (.lst xs))) : Plain H (.ref a)
  | tup {a : Addr} {xs : List V} (e : H a = some (.tup xs)) : Plain H (.ref a)
  | dK {a : Addr} {kvs : List (Key × V)} (e : H a = some (.dK kvs)) : Plain H (.ref a)
def isI : V → Bool
  | .int _ => true
  | .bl _ => true
  | _ => false
def isB : V → Bool
  | .bl _ => true
  | _ => false
/-- a whole number -/
def isW : V → Bool
  | .int _ => true
  | _ => false
theorem isW_eq (x : V) : isW x = (isI x && !isB x) := by cases x <;> rfl
theorem kit_plain {X : Cx} {pins : List (Addr × Obj)} {σ : L2.St} {H : Hp} {s : Shared} {x : V} {u : Value} (I : Inv X pins σ H s) (rx : RelV x u) (p : Plain H x) :
    ∃ (T : String) (D : Heap → Prop), PySem.W.KitX X.K u (.type T) D ∧ (∀ h', (∀ b o, (∀ ps, H b ≠ some (.tbl ps)) → s.heap.get? b = some o → h'.get? b = some o) → D h') ∧ u ≠ .builtin "__main__.__loader__#opaque" ∧
      kitB T "int" = some (isI x) ∧ kitB T "bool" = some (isB x) := by
  cases p with
  | non => cases (show u = Value.none from rx); exact ⟨_, _, PySem.W.kitx_none, fun _ _ => trivial, (fun z => nomatch z), by decide +kernel, by decide +kernel⟩
  | bl b => cases (show u = Value.bool b from rx); exact ⟨_, _, PySem.W.kitx_bool, fun _ _ => trivial, (fun z => nomatch z), (by show _ = some true; decide +kernel), (by show _ = some true; decide +kernel)⟩
  | int i => obtain ⟨t, q⟩ := (show ∃ t, u = Value.int i t from rx); cases q; exact ⟨_, _, PySem.W.kitx_int, fun _ _ => trivial, (fun z => nomatch z), (by show _ = some true; decide +kernel), (by show _ = some false; decide +kernel)⟩
  | str z => obtain ⟨t, q⟩ := (show ∃ t, u = Value.str z t from rx); cases q; exact ⟨_, _, PySem.W.kitx_str, fun _ _ => trivial, (fun z => nomatch z), (by show _ = some false; decide +kernel), (by show _ = some false; decide +kernel)⟩
  | @lst a xs e =>
    cases (show u = Value.ref a from rx)
    obtain ⟨_, _, n, _, h1⟩ := (show ObjOk X.prog X.w H s.heap a (.lst xs) from I.hok a _ e)
    exact ⟨_, _, PySem.W.kitx_list, (fun h' k => ⟨_, k a _ (fun ps z => by rw [e] at z; cases z) h1, rfl⟩), (fun z => nomatch z), (by show _ = some false; decide +kernel), (by show _ = some false; decide +kernel)⟩
  | @frz a ob xs e =>
    cases (show u = Value.ref a from rx)
    obtain ⟨_, _, _, n, _, h1⟩ := (show ObjOk X.prog X.w H s.heap a (.frz ob (.lst xs)) from I.hok a _ e)
    exact ⟨_, _, PySem.W.kitx_list, (fun h' k => ⟨_, k a _ (fun ps z => by rw [e] at z; cases z) h1, rfl⟩), (fun z => nomatch z), (by show _ = some false; decide +kernel), (by show _ = some false; decide +kernel)⟩
  | @tup a xs e =>
    cases (show u = Value.ref a from rx)
    obtain ⟨_, _, _, o, h1, h2, _⟩ := (show ObjOk X.prog X.w H s.heap a (.tup xs) from I.hok a _ e)
    exact ⟨_, _, PySem.W.kitx_tuple, (fun h' k => ⟨o, k a _ (fun ps z => by rw [e] at z; cases z) h1, h2⟩), (fun z => nomatch z), (by show _ = some false; decide +kernel), (by show _ = some false; decide +kernel)⟩
  | @dK a kvs e =>
    cases (show u = Value.ref a from rx)
    obtain ⟨_, _, vs, _, o, es, ep, h1, h2, _⟩ := (show ObjOk X.prog X.w H s.heap a (.dK kvs) from I.hok a _ e)
    exact ⟨_, _, PySem.W.kitx_dict, (fun h' k => ⟨o, k a _ (fun ps z => by rw [e] at z; cases z) h1, h2.1⟩), (fun z => nomatch z), (by show _ = some false; decide +kernel), (by show _ = some false; decide +kernel)⟩

/-- the text of is_whole, its places left open -/
def wholeBody (p : Nat → Pos) : List Stmt :=
  [.Return (some (.BoolOp .And [.Call (.Name "isinstance" (p 0)) [.Name "thing" (p 1), .Name "int" (p 2)] [] (p 3),
    .UnaryOp .Not (.Call (.Name "isinstance" (p 4)) [.Name "thing" (p 5), .Name "bool" (p 6)] [] (p 7)) (p 8)] (p 9))) (p 10)]
def wholeScope : Scope := { kind := .function, names := [(Str.ofString "thing", .local), (Str.ofString "isinstance", .globalImplicit), (Str.ofString "int", .globalImplicit), (Str.ofString "bool", .globalImplicit)], isGenerator := false, isCoroutine := false, more := [] }
section
variable {P : Program} {w : World} {K : PySem.W.Frag} {mg mb : Str → Option Value} {A : Around}
theorem ld_b {E : Value → Shared → Prop} {env : Env} {s : Shared} {x : Str} {u : Value} {pos : Pos} {Q : Value → Shared → Prop} (hk : env.scope.kind = .function) (hg : env.kindOf x = some .globalImplicit) (g1 : env.globals = mainGlobals) (b1 : env.builtins = builtinsNs)
    (hns : s.heap.Ns mainGlobals mg) (hm : mg x = none) (hb : s.heap.Ns builtinsNs mb) (hbb : mb x = some u) (h : Q u s) (hd : (x == ("__debug__" : Str)) = false := by decide) :
    wpAny (model P w) A (eval (.Name x pos) env) Q E s :=
  Calls.Name_function_global hk hg (Calls.loadGlobal_builtin (by rw [g1]; exact hns) hm (by rw [b1]; exact hb) hbb h) hd
/-- is_whole, called anywhere, hands back whether it is a whole number, and the heap is kept -/
theorem quiet_whole {X : Cx} {f : Addr} {kV doc pm cdv ct oc : Value} {an od : Option Addr} {osl : Array (Option Value)} {pa : Arguments} {p : Nat → Pos}
    (lk : X.K.lookup f = some ⟨oc, od, .func (PySem.W.fnOf "is_whole" "is_whole" pa (wholeBody p) wholeScope .none kV doc pm an cdv ct), osl⟩) (hcd : PySem.W.codeIn X.K cdv "is_whole" = true)
    (hbind : ∀ u : Value, bindArgs (PySem.W.fnOf "is_whole" "is_whole" pa (wholeBody p) wholeScope .none kV doc pm an cdv ct) ⟨[u], []⟩ = pure [(Str.ofString "thing", u)])
    (m1 : X.mg "isinstance" = none) (m2 : X.mg "int" = none) (m3 : X.mg "bool" = none)
    {B : Around} {y : V} {v : Value} {pins : List (Addr × Obj)} {σ : L2.St} {H : Hp} {s t : Shared} (hh : B.handled = none) (hdp : B.depth < recursionLimit) (I : Inv X pins σ H s) (pl : Plain H y) (ry : RelV y v)
    (hk : ∀ b o, (∀ ps, H b ≠ some (.tbl ps)) → s.heap.get? b = some o → t.heap.get? b = some o) (E : Value → Shared → Prop) :
    wpAny (model X.prog X.w) B (call (.ref f) [v]) (fun u t' => u = .bool (isW y) ∧ Keeps t t') E t := by
  obtain ⟨T, D, Z, hD, hx, ki, kb⟩ := kit_plain I ry pl
  have hbase : ∀ b o, X.base.get? b = some o → t.heap.get? b = some o := fun b o e => hk b o (fun ps z => by rw [(I.bs b o e).2] at z; cases z) (I.bs b o e).1
  have KX : X.K.In t.heap := I.mod.kin.keeps hbase
  have lim : t.heap.NoLimit := I.mod.nolimit.keeps hbase
  obtain ⟨mb, hb1, hb2⟩ := I.mod.blt
  refine wpAny_call ?_
  refine codeAny_call_function hdp (KX _ _ lk) rfl rfl rfl rfl (PySem.W.codeRec_of KX hcd) ?_
  rw [hbind v]
  refine wpAny_pure ?_
  refine wpAny_newFunctionEnv_cells rfl (fun z hz => .inl (by rw [List.mem_singleton.mp hz]; rfl)) fun env he s1 x => ?_
  subst he
  refine ⟨lim.keeps x.toInCall.keep, codeAny_func ?_⟩
  obtain ⟨h1, tk, rfl, k1⟩ := x.done
  have ns := x.toInCall.ns
  have g1 : h1.Ns mainGlobals X.mg := (I.mod.glob.keeps hbase).keeps k1
  have b1 : h1.Ns builtinsNs mb := (hb1.keeps hbase).keeps k1
  have KX1 : X.K.In h1 := KX.keeps k1
  have hD1 : D h1 := hD h1 fun b o nt e => k1 b o (hk b o nt e)
  refine wpAny_execs_cons (thn (wpAny_Return_some (Q := fun f t' => f = .ret (.bool (isW y)) ∧ Keeps t t') ?_) fun f s2 q => ?_)
  · refine BoolOp_and ?_
    -- isinstance(thing, int)
    refine wpAny_Call_Name_kw (ld_b rfl rfl rfl rfl g1 m1 b1 (hb2 _ (by decide)) ?_)
    refine PyProof.Rows.callWith_builtin1 ?_ rfl rfl
    refine Calls.spliced_cons (wpAny_Name (wpAny_loadName_local rfl rfl ns rfl ?_) (by decide))
    refine Calls.spliced_cons (ld_b rfl rfl rfl rfl g1 m2 b1 (hb2 _ (by decide)) ?_)
    refine Calls.spliced_nil ?_
    refine PySem.W.kia_one Z KX1 hD1 (kit_ty ki) hx fun tk2 => ?_
    refine wpAny_truthy_bool ?_
    cases hi : isI y with
    | false =>
      rw [if_neg (by decide)]
      refine ⟨?_, h1, _, rfl, k1⟩
      rw [isW_eq, hi]
      rfl
    | true =>
      rw [if_pos rfl]
      refine BoolOp_one (UnaryOp_ ?_)
      refine wpAny_Call_Name_kw (ld_b rfl rfl rfl rfl g1 m1 b1 (hb2 _ (by decide)) ?_)
      refine PyProof.Rows.callWith_builtin1 ?_ rfl rfl
      refine Calls.spliced_cons (wpAny_Name (wpAny_loadName_local rfl rfl ns rfl ?_) (by decide))
      refine Calls.spliced_cons (ld_b rfl rfl rfl rfl g1 m3 b1 (hb2 _ (by decide)) ?_)
      refine Calls.spliced_nil ?_
      refine PySem.W.kia_one Z KX1 hD1 (kit_ty kb) hx fun tk3 => ?_
      refine not_of (wpAny_truthy_bool ?_)
      refine ⟨?_, h1, _, rfl, k1⟩
      rw [isW_eq, hi]
      rfl
  · obtain ⟨rfl, hkeep⟩ := q
    exact ⟨rfl, hkeep⟩
end
end Sp
end

section
set_option maxHeartbeats 4000000
namespace Sp
open PySem PySem.Spec PyProof.Rows L2
section
variable {X : Cx} {pins : List (Addr × Obj)} {σ : L2.St} {H : Hp} {s : Shared}
theorem elt_whole {f : Addr} {kV doc pm cdv ct oc : Value} {an od : Option Addr} {osl : Array (Option Value)} {pa : Arguments} {p : Nat → Pos} {scp : Scope} {nm : Str} {p1 p2 p3 : Pos}
    (lk : X.K.lookup f = some ⟨oc, od, .func (PySem.W.fnOf "is_whole" "is_whole" pa (wholeBody p) wholeScope .none kV doc pm an cdv ct), osl⟩) (hcd : PySem.W.codeIn X.K cdv "is_whole" = true)
    (hbind : ∀ u : Value, bindArgs (PySem.W.fnOf "is_whole" "is_whole" pa (wholeBody p) wholeScope .none kV doc pm an cdv ct) ⟨[u], []⟩ = pure [(Str.ofString "thing", u)])
    (m1 : X.mg "isinstance" = none) (m2 : X.mg "int" = none) (m3 : X.mg "bool" = none) (mf : X.mg "is_whole" = some (.ref f)) (kp : PySem.W.keepIn X.K (.ref f) = true)
    (hk : scp.kind = .function) (hw : scp.names.lookup ("is_whole" : Str) = some .globalImplicit) (hd : scp.names.lookup nm = some .local) (hnd : (nm == ("__debug__" : Str)) = false) {k : Nat} (hr : Room k X.A) :
    EltD X scp nm (.Call (.Name "is_whole" p1) [.Name nm p2] [] p3) Plain (fun y u => u = .bool (isW y)) := by
  intro ce B Er y v pins σ H s t m e1 e2 e3 hB hD hU I pl ry keep ns hm
  have hbase : ∀ b o, X.base.get? b = some o → t.heap.get? b = some o := fun b o e => keep b o (fun ps z => by rw [(I.bs b o e).2] at z; cases z) (I.bs b o e).1
  have KX : X.K.In t.heap := I.mod.kin.keeps hbase
  refine wpAny_Call_Name_kw (Calls.Name_function_global (by rw [e1]; exact hk) (show ce.scope.names.lookup _ = _ by rw [e1]; exact hw) (Calls.loadGlobal_global (by rw [e2]; exact I.mod.glob.keeps hbase) mf ?_) (by decide))
  refine PySem.W.callWith_K (h₀ := X.base) I.ok.mod.kin kp ?_ rfl rfl
  refine Calls.spliced_cons (wpAny_Name (wpAny_loadName_local (by rw [e1]; exact hk) (show ce.scope.names.lookup _ = _ by rw [e1]; exact hd) ns hm ?_) hnd)
  refine Calls.spliced_nil ⟨KX, ?_⟩
  exact quiet_whole lk hcd hbind m1 m2 m3 hB (by have := hr.dp; omega) I pl ry keep Er
/-- all(..) of a generator expression over a list -/
def tAllG (K : PySem.W.Frag) (P : Addr) (Pv : Hp → V → Prop) (pb : V → Bool) (te : TE) : TE := fun σ H Q => te σ H fun v H1 => ∃ (l : Addr) (ys : List V), v = .ref l ∧ SqL K H1 l ys ∧ (∀ y ∈ ys, Pv H1 y) ∧ GxR.TabG H1 P ∧
  ∀ H2, GxR.Tabbed P H1 H2 → Q (.bl (ys.all pb)) H2
def trD (pb : V → Bool) (ys : List V) (j : Nat) : Bool := ((ys[j]?).map pb).getD true
theorem trD_all (pb : V → Bool) (ys : List V) : (List.range ys.length).all (trD pb ys) = ys.all pb := by
  rw [Bool.eq_iff_iff, List.all_eq_true, List.all_eq_true]
  constructor
  · intro h y hy
    obtain ⟨j, hj, e⟩ := List.getElem_of_mem hy
    have q := h j (List.mem_range.mpr hj)
    unfold trD at q
    rw [List.getElem?_eq_getElem hj, e] at q
    exact q
  · intro h j hj
    have hj' := List.mem_range.mp hj
    unfold trD
    rw [List.getElem?_eq_getElem hj']
    exact h _ (List.getElem_mem hj')
theorem pe_allG {cd P : Addr} {el it : Expr} {nm : Str} {pn p pos gp : Pos} {scp : Scope} {te : TE} {k : Nat} {Pv : Hp → V → Prop} {pb : V → Bool}
    (room : Room k X.A) (hg : Gl X "all") (hm : X.mg "all" = none) (hb : bootBuiltins "all" = some (.builtin "all")) (TB : GxR.TabB X.base X.mg cd P) (hcd : X.env.code = .ref cd) (S : GxR.GenS X.env scp nm) (hit : PE X it te)
    (hel : EltD X scp nm el Pv (fun y u => u = .bool (pb y))) (hfold : ∀ v, genFold it X.env v = pure v)
    (he : starEach [.GeneratorExp el [⟨.Name nm pn, it, [], 0⟩] scp gp] X.env = (false, eval (.GeneratorExp el [⟨.Name nm pn, it, [], 0⟩] scp gp) X.env) :: starEach [] X.env := by rfl) :
    PE X (.Call (.Name "all" p) [.GeneratorExp el [⟨.Name nm pn, it, [], 0⟩] scp gp] [] pos) (tAllG X.K P Pv pb te) := by
  refine ⟨fun pins s σ H Q I h => ?_⟩
  refine wpAny_Call_Name_kw (ld_blt I hg hm hb ?_)
  refine PyProof.Rows.callWith_builtin1 ?_ he (by rfl)
  rw [he]
  show wpAny _ _ (spliced ((false, eval (.GeneratorExp el [⟨.Name nm pn, it, [], 0⟩] scp gp) X.env) :: backTo pos (starEach [] X.env))) _ _ s
  refine Calls.spliced_cons (gen_list (R := fun l ys H1 => ∀ H2, GxR.Tabbed P H1 H2 → Q (.bl (ys.all pb)) H2) room TB hcd S hit hel hfold I h fun l ys H1 g z hR hG => ?_)
  obtain ⟨fp, wr, GG, F, St, W, _, st, _, _, _, hF, hI⟩ := hG
  refine Calls.spliced_nil ?_
  refine call_all_walkS (W.self 0 _ _ _ st ⟨g, fp, wr, GG, _, F, St, trD pb ys, rfl, W, st, ?_, fun z' mv => ?_⟩)
  · intro i u sj Qj Ej hu hQj
    obtain ⟨y, hy, rfl⟩ := hF i u hu
    have q : Qj (trD pb ys i) sj := hQj
    unfold trD at q
    rw [hy] at q
    exact wpAny_truthy_bool q
  · obtain ⟨H2, hT, J⟩ := hI z' mv
    refine ⟨.bl _, H2, J, rfl, ?_⟩
    rw [trD_all]
    exact hR H2 hT
end
/-! ### what stays -/
/-- all that was tracked is as it was, but for what stands at C, and the tables of code, which grow -/
structure Ex (C : List Addr) (H H' : Hp) : Prop where
  keep : ∀ b o, b ∉ C → H b = some o → (∀ ps, o ≠ .tbl ps) → H' b = some o
  tab : ∀ P, GxR.TabG H P → GxR.TabG H' P
  there : ∀ b, H' b = none → H b = none
theorem Ex.refl {C : List Addr} (H : Hp) : Ex C H H := ⟨fun _ _ _ e _ => e, fun _ h => h, fun _ h => h⟩
theorem Ex.trans {C : List Addr} {H H1 H2 : Hp} (a : Ex C H H1) (b : Ex C H1 H2) : Ex C H H2 := ⟨fun c o m e n => b.keep c o m (a.keep c o m e n) n, fun P h => b.tab P (a.tab P h), fun c h => a.there c (b.there c h)⟩
theorem Ex.mono {C D : List Addr} {H H' : Hp} (a : Ex C H H') (h : ∀ x ∈ C, x ∈ D) : Ex D H H' := ⟨fun b o m e n => a.keep b o (fun z => m (h b z)) e n, a.tab, a.there⟩
theorem Ex.up {C : List Addr} {H H' : Hp} (a : Ex [] H H') : Ex C H H' := a.mono fun _ h => nomatch h
theorem Ex.less {C D : List Addr} {H H' : Hp} (a : Ex C H H') (h : ∀ x ∈ C, x ∈ D ∨ H x = none) : Ex D H H' := ⟨fun b o m e n => a.keep b o (fun z => by
  rcases h b z with q | q
  · exact m q
  · rw [q] at e; cases e) e n, a.tab, a.there⟩
/-- what is changed was not there at first -/
theorem Ex.drop {C : List Addr} {H H' : Hp} (a : Ex C H H') (h : ∀ c ∈ C, H c = none) : Ex [] H H' := ⟨fun b o _ e n => a.keep b o (fun z => by rw [h b z] at e; cases e) e n, a.tab, a.there⟩
theorem tabg_ne {H : Hp} {P a : Addr} {o : HO} (t : GxR.TabG H P) (e : H a = some o) (n : ∀ ps, o ≠ .tbl ps) : a ≠ P := fun z => by
  obtain ⟨ps, q, _⟩ := t
  rw [z, q] at e
  exact n ps (Option.some.inj e).symm
theorem tabg_upd {H : Hp} {P a : Addr} {u o : HO} (t : GxR.TabG H P) (e : H a = some u) (n : ∀ ps, u ≠ .tbl ps) : GxR.TabG (upd H a o) P := by
  have q := tabg_ne t e n
  obtain ⟨ps, z, r⟩ := t
  exact ⟨ps, by rw [upd_ne q.symm]; exact z, r⟩
theorem Ex.new {C : List Addr} {H : Hp} {p : Addr} {o : HO} (h : H p = none) : Ex C H (upd H p o) := ⟨fun b u _ e _ => by rw [upd_ne (ne_of_none e h)]; exact e, fun P t => by
  obtain ⟨ps, q, r⟩ := t
  exact ⟨ps, by rw [upd_ne (ne_of_none q h)]; exact q, r⟩, fun b e => by
  by_cases z : b = p
  · rw [z]; exact h
  · rw [upd_ne z] at e; exact e⟩
/-- a change at c -/
theorem Ex.set {C : List Addr} {H : Hp} {c : Addr} {u o : HO} (h : H c = some u) (n : ∀ ps, u ≠ .tbl ps) (m : c ∈ C) : Ex C H (upd H c o) := ⟨fun b v hb e _ => by rw [upd_ne (fun z => hb (by rw [z]; exact m))]; exact e, fun P t => tabg_upd t h n, fun b e => by
  by_cases z : b = c
  · rw [z, upd_same] at e; cases e
  · rw [upd_ne z] at e; exact e⟩
theorem Ex.tabbed {C : List Addr} {H H' : Hp} {P : Addr} (t : GxR.TabG H P) (h : GxR.Tabbed P H H') : Ex C H H' := ⟨fun b o _ e n => by rw [h.2 b (tabg_ne t e n)]; exact e, fun Q tq => by
    by_cases e : Q = P
    · rw [e]; exact h.1
    · obtain ⟨ps, q, r⟩ := tq
      exact ⟨ps, by rw [h.2 Q e]; exact q, r⟩, fun b e => by
    by_cases z : b = P
    · obtain ⟨ps, q, _⟩ := h.1
      rw [z, q] at e
      cases e
    · rw [h.2 b z] at e; exact e⟩
theorem Ex.at {C : List Addr} {H H' : Hp} (x : Ex C H H') {a : Addr} {xs : List V} (e : H a = some (.lst xs)) (m : a ∉ C) : H' a = some (.lst xs) := x.keep a _ m e fun _ z => nomatch z
theorem nm {a : Addr} : a ∉ ([] : List Addr) := fun h => nomatch h
theorem n1 {a c : Addr} (h : a ≠ c) : a ∉ [c] := fun z => h (List.mem_singleton.mp z)
theorem Ex.lst {H H' : Hp} (x : Ex [] H H') {a : Addr} {xs : List V} (e : H a = some (.lst xs)) : H' a = some (.lst xs) := x.keep a _ nm e fun _ z => nomatch z
theorem Ex.tup {H H' : Hp} (x : Ex [] H H') {a : Addr} {xs : List V} (e : H a = some (.tup xs)) : H' a = some (.tup xs) := x.keep a _ nm e fun _ z => nomatch z
theorem Ex.frz {H H' : Hp} (x : Ex [] H H') {a : Addr} {o : Obj} {u : HO} (e : H a = some (.frz o u)) : H' a = some (.frz o u) := x.keep a _ nm e fun _ z => nomatch z
theorem Ex.seq {K : PySem.W.Frag} {H H' : Hp} {C : List Addr} (x : Ex C H H') {a : Addr} {xs : List V} (m : a ∉ C) (h : SqL K H a xs) : SqL K H' a xs := by
  rcases h with (h | ⟨o, h⟩) | h
  · exact .inl (.inl (x.keep a _ m h fun _ z => nomatch z))
  · exact .inl (.inr ⟨o, x.keep a _ m h fun _ z => nomatch z⟩)
  · exact .inr h
theorem Ex.rd {H H' : Hp} {C : List Addr} (x : Ex C H H') {a : Addr} {xs : List V} (m : a ∉ C) (h : Rd H a (.lst xs)) : Rd H' a (.lst xs) := by
  rcases h with h | ⟨o, h⟩
  · exact .inl (x.keep a _ m h fun _ z => nomatch z)
  · exact .inr ⟨o, x.keep a _ m h fun _ z => nomatch z⟩
theorem rd_seq {K : PySem.W.Frag} {H : Hp} {a : Addr} {xs : List V} (h : Rd H a (.lst xs)) : SqL K H a xs := .inl h
theorem sq {K : PySem.W.Frag} {H : Hp} {a : Addr} {xs : List V} (h : H a = some (.lst xs)) : SqL K H a xs := .inl (.inl h)
theorem sqt {K : PySem.W.Frag} {H : Hp} {a : Addr} {xs : List V} (h : H a = some (.tup xs)) : SqT K H a xs := .inl (.inl h)
/-! ### a def of the text, with all that a caller wants of it -/
structure Df (K : PySem.W.Frag) (mg : Str → Option Value) (x : Str) (st : Stmt) (ps : List Str) where
  f : Addr
  fd : FuncData
  F : Fun K x x st f fd
  b : Binds K fd ps []
  m : mg x = some (.ref f)
section
variable {X : Cx} {e : Expr} {es : List Expr} {t : TA} {p pos : Pos} {x : Str} {st : Stmt} {ps : List Str} {k : Nat} {sp : Sp}
theorem pe_d (d : Df X.K X.mg x st ps) (G : FnOk X.prog X.w X.K X.mg X.base CX0 k d.f d.fd ps sp) (hr : Room k X.A) (ha : PA X (e :: es) t) (hg : Gl X x := by rfl)
    (hdb : (x == ("__debug__" : Str)) = false := by decide) (he : starEach (e :: es) X.env = (false, eval e X.env) :: starEach es X.env := by rfl) (hpl : (backTo pos (starEach es X.env)).any (·.1) = false := by rfl) :
    PE X (.Call (.Name x p) (e :: es) [] pos) (tCall sp [] E0 t) := pe_call G hr hg d.m d.F.kp d.b .nil pass0 ha hdb he hpl
end
/-- the built-in names are the built-in ones -/
structure Blt (mg : Str → Option Value) : Prop where
  isinstance : mg "isinstance" = none
  int : mg "int" = none
  bool : mg "bool" = none
  list : mg "list" = none
  all : mg "all" = none
  min : mg "min" = none
  max : mg "max" = none
  sum : mg "sum" = none
  len : mg "len" = none
  abs : mg "abs" = none
  range : mg "range" = none
  sorted : mg "sorted" = none
  enumerate : mg "enumerate" = none
  zip : mg "zip" = none
  tuple : mg "tuple" = none
  str : mg "str" = none
  repr : mg "repr" = none
  reversed : mg "reversed" = none
  dict : mg "dict" = none
section
variable {X : Cx} {e : Expr} {es : List Expr} {t : TA} {p pos : Pos}
/-- a built-in class's name as a value -/
theorem pe_ty {x : Str} (n : String) (hm : X.mg x = none) (hv : bootBuiltins x = some (.type n) := by decide +kernel) (hg : Gl X x := by rfl) (hn : x ≠ "__name__" := by decide) (hd : (x == ("__debug__" : Str)) = false := by decide) : PE X (.Name x pos) (tC (.ty n)) :=
  pe_bltn hg hm hv rfl hn hd
theorem pe_isi {a b : Expr} {ta tb : TE} (B : Blt X.mg) (ha : PE X a ta) (hb : PE X b tb) (hg : Gl X "isinstance" := by rfl) (s1 : starEach [a, b] X.env = (false, eval a X.env) :: starEach [b] X.env := by rfl) (s2 : starEach [b] X.env = (false, eval b X.env) :: starEach [] X.env := by rfl)
    (s3 : (backTo pos (starEach [b] X.env)).any (·.1) = false := by rfl) : PE X (.Call (.Name "isinstance" p) [a, b] [] pos) (tCB (rIsi X.K) (tCons ta (tCons tb tNil))) :=
  pe_callB call_isi hg B.isinstance (by decide +kernel) (pa_cons ha (pa_cons hb pa_nil s2) s1) (by decide) (by decide) s1 s3
end
/-! ### great numbers -/
def CPowW (i j : Int) : Prop := 0 ≤ j ∧ j ≤ 10 ∧ i.natAbs < 2 ^ 100000
theorem bits_of {i : Int} {n : Nat} (h : i.natAbs < 2 ^ n) : Builtin.Int.intBits i ≤ n := by
  unfold Builtin.Int.intBits
  split
  · omega
  · rename_i z
    have z' : i.natAbs ≠ 0 := fun q => z (by rw [Int.natAbs_eq_zero.mp q]; rfl)
    have := (Nat.log2_lt z').mpr h
    omega
theorem CPowW.ok {i j : Int} (h : CPowW i j) : (Builtin.Int.intBits i : Int) * j ≤ 2 ^ 27 := by
  obtain ⟨h1, h2, h3⟩ := h
  have b := bits_of h3
  have b' : (Builtin.Int.intBits i : Int) ≤ 100000 := by omega
  have q : (Builtin.Int.intBits i : Int) * j ≤ 100000 * j := Int.mul_le_mul_of_nonneg_right b' h1
  omega
section
variable {X : Cx}
theorem op_powW : OpR X (binaryOp .Pow) (rI CPowW fun i j => .int (i ^ j.toNat)) := opI fun _ _ _ _ _ _ _ hc q => pow_int hc.1 hc.ok q
/-- a power whose value is written -/
def rPowC : V → V → Hp → VK → Prop := fun x y H Q => ∃ (i j k : Int), x = .int i ∧ y = .int j ∧ (0 ≤ j ∧ j ≤ 1000 ∧ i.natAbs < 2 ^ 64) ∧ i ^ j.toNat = k ∧ Q (.int k) H
theorem op_powC : OpR X (binaryOp .Pow) rPowC := by
  intro pins s σ H x y Q v u I rx ry h
  obtain ⟨i, j, k, rfl, rfl, ⟨h1, h2, h3⟩, rfl, q⟩ := h
  exact op_pow pins s σ H _ _ _ _ _ I rx ry ⟨i, j, rfl, rfl, ⟨h1, by omega, h3⟩, q⟩
end
theorem pow200 {n : Nat} (a : n < 2 ^ 200) : n < 2 ^ 100000 := Nat.lt_of_lt_of_le a (Nat.pow_le_pow_right (by decide) (by decide))
theorem powW {i : Int} (h0 : 0 ≤ i) (h : i < 1000000000000000000000000000000000000000000000000000000000000) : CPowW i 3 := by
  refine ⟨by decide, by decide, ?_⟩
  have a : i.natAbs < 2 ^ 200 := by omega
  exact pow200 a
theorem powW5 {i : Int} (h0 : 0 ≤ i) (h : i < 1000000000000000000000000000000000000000000000000000000000000) : CPowW i 5 := by
  refine ⟨by decide, by decide, ?_⟩
  have a : i.natAbs < 2 ^ 200 := by omega
  exact pow200 a
theorem divW {i j : Int} (h0 : 0 < j) (h : j < 1000000000000000000000000000000000000000000000000000000000000) : CDivW i j := wide_div (b := 200) h0 (by omega) (by decide) (by decide)
/-- what a law draws from: what is left of a great cell, a number to mix, how many were mixed -/
def CaskAt (H : Hp) (c : Addr) (M : Int) : Prop := ∃ a b n : Int, H c = some (.lst [.int a, .int b, .int n]) ∧ 0 ≤ a ∧ 0 ≤ b ∧ b < 1000000000000000000000000000000000000000000 ∧ 0 ≤ n ∧ n ≤ M
theorem CaskAt.ex {C : List Addr} {H H' : Hp} {c : Addr} {M : Int} (x : Ex C H H') (m : c ∉ C) (k : CaskAt H c M) : CaskAt H' c M := by
  obtain ⟨a, b, n, h, r⟩ := k
  exact ⟨a, b, n, x.at h m, r⟩
theorem CaskAt.le {H : Hp} {c : Addr} {M N : Int} (k : CaskAt H c M) (h : M ≤ N) : CaskAt H c N := by
  obtain ⟨a, b, n, e, h1, h2, h3, h4, h5⟩ := k
  exact ⟨a, b, n, e, h1, h2, h3, h4, by omega⟩
theorem CaskAt.some {H : Hp} {c : Addr} {M : Int} (k : CaskAt H c M) : ∃ xs, H c = some (.lst xs) := by
  obtain ⟨a, b, n, e, _⟩ := k
  exact ⟨_, e⟩
theorem CaskAt.ne {H : Hp} {c p : Addr} {M : Int} (k : CaskAt H c M) (h : H p = none) : c ≠ p := by
  obtain ⟨xs, e⟩ := k.some
  exact ne_of_none e h
theorem mod_lt {a b : Int} (h : 0 < b) : 0 ≤ a % b ∧ a % b < b := ⟨Int.emod_nonneg _ (by omega), Int.emod_lt_of_pos _ h⟩
end Sp
end

section
set_option maxHeartbeats 200000
/-! One tank, day by day: the mathematics. -/
namespace Sp
open L2
def stepC (cap c d : Int) : Int := if cap < (if 0 > c + d then 0 else c + d) then cap else (if 0 > c + d then 0 else c + d)
def stepS (cap c d : Int) : Int := if 0 > c + d - cap then 0 else c + d - cap
def stepL (c d : Int) : Int := if 0 > -(c + d) then 0 else -(c + d)
def endC (cap : Int) : Int → List Int → Int
  | c, [] => c
  | c, d :: ds => endC cap (stepC cap c d) ds
def runC (cap : Int) : Int → List Int → List Int
  | _, [] => []
  | c, d :: ds => stepC cap c d :: runC cap (stepC cap c d) ds
def runS (cap : Int) : Int → List Int → List Int
  | _, [] => []
  | c, d :: ds => stepS cap c d :: runS cap (stepC cap c d) ds
def runL (cap : Int) : Int → List Int → List Int
  | _, [] => []
  | c, d :: ds => stepL c d :: runL cap (stepC cap c d) ds
def inC (cap c : Int) (ds : List Int) : List Int := c :: runC cap c ds
section
variable {cap : Int}
theorem endC_app : ∀ (c : Int) (xs ys : List Int), endC cap c (xs ++ ys) = endC cap (endC cap c xs) ys
  | _, [], _ => rfl
  | c, d :: ds, ys => endC_app (stepC cap c d) ds ys
theorem runC_app : ∀ (c : Int) (xs ys : List Int), runC cap c (xs ++ ys) = runC cap c xs ++ runC cap (endC cap c xs) ys
  | _, [], _ => rfl
  | c, d :: ds, ys => congrArg (stepC cap c d :: ·) (runC_app (stepC cap c d) ds ys)
theorem runS_app : ∀ (c : Int) (xs ys : List Int), runS cap c (xs ++ ys) = runS cap c xs ++ runS cap (endC cap c xs) ys
  | _, [], _ => rfl
  | c, d :: ds, ys => congrArg (stepS cap c d :: ·) (runS_app (stepC cap c d) ds ys)
theorem runL_app : ∀ (c : Int) (xs ys : List Int), runL cap c (xs ++ ys) = runL cap c xs ++ runL cap (endC cap c xs) ys
  | _, [], _ => rfl
  | c, d :: ds, ys => congrArg (stepL c d :: ·) (runL_app (stepC cap c d) ds ys)
theorem runC_len : ∀ (c : Int) (ds : List Int), (runC cap c ds).length = ds.length
  | _, [] => rfl
  | c, d :: ds => congrArg (· + 1) (runC_len (stepC cap c d) ds)
theorem runS_len : ∀ (c : Int) (ds : List Int), (runS cap c ds).length = ds.length
  | _, [] => rfl
  | c, d :: ds => congrArg (· + 1) (runS_len (stepC cap c d) ds)
theorem runL_len : ∀ (c : Int) (ds : List Int), (runL cap c ds).length = ds.length
  | _, [] => rfl
  | c, d :: ds => congrArg (· + 1) (runL_len (stepC cap c d) ds)
/-- the last content is the end -/
theorem inC_last : ∀ (c : Int) (ds : List Int), ∃ xs : List Int, inC cap c ds = xs ++ [endC cap c ds] ∧ xs.length = ds.length
  | c, [] => ⟨[], rfl, rfl⟩
  | c, d :: ds => by
    obtain ⟨xs, e, h⟩ := inC_last (stepC cap c d) ds
    exact ⟨c :: xs, congrArg (c :: ·) e, congrArg (· + 1) h⟩
theorem inC_at (c : Int) (ds : List Int) : atI ((inC cap c ds).map V.int) (-1) = some (.int (endC cap c ds)) := by
  obtain ⟨xs, e, _⟩ := inC_last (cap := cap) c ds
  rw [e, List.map_append]
  exact atI_last _ _
theorem step_range {c d : Int} (h0 : 0 ≤ cap) : 0 ≤ stepC cap c d ∧ stepC cap c d ≤ cap := by
  unfold stepC
  split <;> split <;> omega
theorem end_range : ∀ (c : Int) (ds : List Int), 0 ≤ c → c ≤ cap → 0 ≤ endC cap c ds ∧ endC cap c ds ≤ cap
  | c, [], h0, h1 => ⟨h0, h1⟩
  | c, d :: ds, h0, h1 => end_range (stepC cap c d) ds (step_range (by omega)).1 (step_range (by omega)).2
theorem take_succ {α : Type} {xs : List α} {i : Nat} {x : α} (h : xs[i]? = some x) : xs.take (i + 1) = xs.take i ++ [x] := by
  rw [List.take_add_one, h]
  rfl
theorem map_at {xs : List Int} {i : Nat} {y : V} (h : (xs.map V.int)[i]? = some y) : ∃ z : Int, y = .int z ∧ xs[i]? = some z := by
  rw [List.getElem?_map] at h
  cases e : xs[i]? with
  | none => rw [e] at h; cases h
  | some z => rw [e] at h; exact ⟨z, (Option.some.inj h).symm, rfl⟩
end
theorem step_cases {cap c d : Int} (h0 : 0 ≤ cap) : (c + d < 0 ∧ stepC cap c d = 0 ∧ stepS cap c d = 0 ∧ stepL c d = -(c + d)) ∨ (0 ≤ c + d ∧ c + d ≤ cap ∧ stepC cap c d = c + d ∧ stepS cap c d = 0 ∧ stepL c d = 0) ∨
    (cap < c + d ∧ stepC cap c d = cap ∧ stepS cap c d = c + d - cap ∧ stepL c d = 0) := by
  unfold stepC stepS stepL
  by_cases h1 : c + d < 0
  · refine .inl ⟨h1, ?_, ?_, ?_⟩
    · rw [if_pos h1, if_neg (by omega)]
    · rw [if_pos (by omega)]
    · rw [if_neg (by omega)]
  · rw [if_neg (show ¬ 0 > c + d by omega)]
    by_cases h2 : cap < c + d
    · refine .inr (.inr ⟨h2, ?_, ?_, ?_⟩)
      · rw [if_pos h2]
      · rw [if_neg (by omega)]
      · by_cases h3 : 0 > -(c + d)
        · rw [if_pos h3]
        · rw [if_neg h3]; omega
    · refine .inr (.inl ⟨by omega, by omega, ?_, ?_, ?_⟩)
      · rw [if_neg h2]
      · by_cases h3 : 0 > c + d - cap
        · rw [if_pos h3]
        · rw [if_neg h3]; omega
      · by_cases h3 : 0 > -(c + d)
        · rw [if_pos h3]
        · rw [if_neg h3]; omega
/-- with all signs turned -/
theorem step_neg {cap c d : Int} (h0 : 0 ≤ c) (h1 : c ≤ cap) : stepC cap (cap - c) (0 - d) = cap - stepC cap c d ∧ stepS cap (cap - c) (0 - d) = stepL c d ∧ stepL (cap - c) (0 - d) = stepS cap c d := by
  have a := step_cases (cap := cap) (c := c) (d := d) (by omega)
  have b := step_cases (cap := cap) (c := cap - c) (d := 0 - d) (by omega)
  refine ⟨?_, ?_, ?_⟩ <;> omega
theorem run_neg {cap : Int} : ∀ (c : Int) (ds : List Int), 0 ≤ c → c ≤ cap → runC cap (cap - c) (ds.map (0 - ·)) = (runC cap c ds).map (cap - ·) ∧ runS cap (cap - c) (ds.map (0 - ·)) = runL cap c ds ∧ runL cap (cap - c) (ds.map (0 - ·)) = runS cap c ds
  | c, [], _, _ => ⟨rfl, rfl, rfl⟩
  | c, d :: ds, h0, h1 => by
    obtain ⟨e1, e2, e3⟩ := step_neg (d := d) h0 h1
    have r := step_range (cap := cap) (c := c) (d := d) (by omega)
    obtain ⟨i1, i2, i3⟩ := run_neg (stepC cap c d) ds r.1 r.2
    refine ⟨?_, ?_, ?_⟩
    · show stepC cap (cap - c) (0 - d) :: runC cap (stepC cap (cap - c) (0 - d)) (ds.map (0 - ·)) = (cap - stepC cap c d) :: (runC cap (stepC cap c d) ds).map (cap - ·)
      rw [e1, i1]
    · show stepS cap (cap - c) (0 - d) :: runS cap (stepC cap (cap - c) (0 - d)) (ds.map (0 - ·)) = stepL c d :: runL cap (stepC cap c d) ds
      rw [e1, e2, i2]
    · show stepL (cap - c) (0 - d) :: runL cap (stepC cap (cap - c) (0 - d)) (ds.map (0 - ·)) = stepS cap c d :: runS cap (stepC cap c d) ds
      rw [e1, e3, i3]
/-- from another start what is spilled is more by what lies above the end of the days read from the last to the first -/
theorem spill_start {cap : Int} (hc : 0 ≤ cap) : ∀ (ds : List Int) (x : Int), 0 ≤ x → x ≤ cap →
    (runS cap x ds).sum = (runS cap 0 ds).sum + (if 0 > x + endC cap 0 ds.reverse - cap then 0 else x + endC cap 0 ds.reverse - cap)
  | [], x, h0, h1 => by
    show (0 : Int) = 0 + (if 0 > x + 0 - cap then 0 else x + 0 - cap)
    split <;> omega
  | d :: ds, x, h0, h1 => by
    have er : endC cap 0 (d :: ds).reverse = stepC cap (endC cap 0 ds.reverse) d := by
      rw [List.reverse_cons, endC_app]
      rfl
    have re := end_range (cap := cap) 0 ds.reverse (Int.le_refl 0) hc
    have r1 := step_range (cap := cap) (c := x) (d := d) hc
    have r2 := step_range (cap := cap) (c := 0) (d := d) hc
    have i1 := spill_start hc ds (stepC cap x d) r1.1 r1.2
    have i2 := spill_start hc ds (stepC cap 0 d) r2.1 r2.2
    rw [er]
    show stepS cap x d + (runS cap (stepC cap x d) ds).sum = (stepS cap 0 d + (runS cap (stepC cap 0 d) ds).sum) + _
    rw [i1, i2]
    generalize endC cap 0 ds.reverse = e at *
    generalize (runS cap 0 ds).sum = z at *
    clear i1 i2 er
    have a := step_cases (c := x) (d := d) hc
    have b := step_cases (c := 0) (d := d) hc
    have c := step_cases (c := e) (d := d) hc
    generalize stepC cap x d = a1 at *
    generalize stepC cap 0 d = b1 at *
    generalize stepC cap e d = c1 at *
    generalize stepS cap x d = a2 at *
    generalize stepS cap 0 d = b2 at *
    rcases a with a | a | a <;> rcases b with b | b | b <;> rcases c with c | c | c <;> (repeat' split) <;> omega
theorem spill_rev {cap : Int} (hc : 0 ≤ cap) : ∀ ds : List Int, (runS cap 0 ds.reverse).sum = (runS cap 0 ds).sum
  | [] => rfl
  | d :: ds => by
    have re := end_range (cap := cap) 0 ds.reverse (Int.le_refl 0) hc
    have r2 := step_range (cap := cap) (c := 0) (d := d) hc
    have i2 := spill_start hc ds (stepC cap 0 d) r2.1 r2.2
    have ih := spill_rev hc ds
    rw [List.reverse_cons, runS_app, List.sum_append, ih]
    show _ + (stepS cap (endC cap 0 ds.reverse) d + 0) = stepS cap 0 d + (runS cap (stepC cap 0 d) ds).sum
    rw [i2]
    generalize endC cap 0 ds.reverse = e at *
    generalize (runS cap 0 ds).sum = z at *
    clear i2 ih
    have b := step_cases (c := 0) (d := d) hc
    have c := step_cases (c := e) (d := d) hc
    generalize stepC cap 0 d = b1 at *
    generalize stepS cap 0 d = b2 at *
    generalize stepS cap e d = c2 at *
    rcases b with b | b | b <;> rcases c with c | c | c <;> (repeat' split) <;> omega
theorem lack_rev {cap : Int} (hc : 0 ≤ cap) (ds : List Int) : (runL cap cap ds.reverse).sum = (runL cap cap ds).sum := by
  have h1 := (run_neg (cap := cap) cap ds.reverse hc (Int.le_refl _)).2.1
  have h2 := (run_neg (cap := cap) cap ds hc (Int.le_refl _)).2.1
  rw [Int.sub_self] at h1 h2
  rw [← h1, ← h2, List.map_reverse]
  exact spill_rev hc _
end Sp
end

section
set_option maxHeartbeats 1000000
namespace Sp
open PySem PySem.Spec PyProof.Rows L2
/-- data that can be laid, at most n deep -/
def Sh (n : Nat) (d : PyData) : Prop := d.canLay0 = true ∧ d.depth ≤ n
theorem Sh.shaped {n : Nat} {d : PyData} (h : Sh n d) (hn : n ≤ 64) : SeqAt.shaped d = true := by
  unfold SeqAt.shaped
  rw [h.1, decide_eq_true (Nat.le_trans h.2 hn)]
  rfl
theorem Sh.refl {n : Nat} {d : PyData} (h : Sh n d) : PyData.eqv d d = true := SeqAt.eqv_refl d h.1
theorem Sh.mono {n m : Nat} {d : PyData} (h : Sh n d) (hn : n ≤ m) : Sh m d := ⟨h.1, Nat.le_trans h.2 hn⟩
theorem sh_int {n : Nat} (i : Int) : Sh n (.int i) := ⟨rfl, by simp [PyData.depth]⟩
theorem sh_bool {n : Nat} (b : Bool) : Sh n (.bool b) := ⟨rfl, by simp [PyData.depth]⟩
theorem sh_none {n : Nat} : Sh n .none := ⟨rfl, by simp [PyData.depth]⟩
theorem shAll {n : Nat} : ∀ ds : List PyData, (∀ d ∈ ds, Sh n d) → PyData.canLayAll0 ds = true ∧ PyData.depthAll ds ≤ n
  | [], _ => ⟨rfl, by simp [PyData.depthAll]⟩
  | d :: ds, h => by
    have h1 := h d List.mem_cons_self
    have h2 := shAll ds fun x hx => h x (List.mem_cons_of_mem _ hx)
    refine ⟨by simp [PyData.canLayAll0, h1.1, h2.1], ?_⟩
    simp only [PyData.depthAll]
    exact Nat.max_le.mpr ⟨h1.2, h2.2⟩
theorem sh_list {n : Nat} {ds : List PyData} (h : ∀ d ∈ ds, Sh n d) : Sh (n + 1) (.list ds) := by
  have q := shAll ds h
  refine ⟨by simp only [PyData.canLay0]; exact q.1, ?_⟩
  simp only [PyData.depth]
  omega
theorem sh_tup {n : Nat} {ds : List PyData} (h : ∀ d ∈ ds, Sh n d) : Sh (n + 1) (.tuple ds) := by
  have q := shAll ds h
  refine ⟨by simp only [PyData.canLay0]; exact q.1, ?_⟩
  simp only [PyData.depth]
  omega
def pdI (ns : List Int) : PyData := .list (ns.map .int)
theorem sh_pdI (ns : List Int) : Sh 1 (pdI ns) := sh_list fun d hd => by
  obtain ⟨n, _, rfl⟩ := List.mem_map.mp hd
  exact sh_int n
section
variable {K : PySem.W.Frag} {H : Hp}
theorem dpAll_ints : ∀ ns : List Int, DpAll K H (ns.map V.int) (ns.map PyData.int)
  | [] => .nil
  | n :: ns => .cons (.int n) (dpAll_ints ns)
theorem dp_ints {a : Addr} {ns : List Int} (h : H a = some (.lst (ns.map V.int))) : Dp K H (.ref a) (pdI ns) := .lst (sq h) (dpAll_ints ns)
theorem dp_intsR {a : Addr} {ns : List Int} (h : Rd H a (.lst (ns.map V.int))) : Dp K H (.ref a) (pdI ns) := .lst (rd_seq h) (dpAll_ints ns)
/-- three lists of ints in a tuple -/
def pd3 (xs ys zs : List Int) : PyData := .tuple [pdI xs, pdI ys, pdI zs]
theorem sh_pd3 (xs ys zs : List Int) : Sh 2 (pd3 xs ys zs) := sh_tup fun d hd => by
  simp only [List.mem_cons, List.not_mem_nil, or_false] at hd
  rcases hd with rfl | rfl | rfl <;> exact sh_pdI _
theorem dp_3 {t a b c : Addr} {xs ys zs : List Int} (h : H t = some (.tup [.ref a, .ref b, .ref c])) (ha : H a = some (.lst (xs.map V.int))) (hb : H b = some (.lst (ys.map V.int))) (hc : H c = some (.lst (zs.map V.int))) : Dp K H (.ref t) (pd3 xs ys zs) :=
  .tup (sqt h) (.cons (dp_ints ha) (.cons (dp_ints hb) (.cons (dp_ints hc) .nil)))
end
end Sp
end

section
set_option maxHeartbeats 2000000
/-! The end: the law's promise at the heap behind the top, with the tables of the defs that hold a generator expression. -/
namespace Sp
open PySem PySem.W PySem.Calls PyProof.Rows L2
/-- what the top tells of the defs' code objects -/
def TabsOf (q : Program) (mg : Str → Option Value) (h : Heap) : Prop :=
  ∀ (nm : Str) (f : Addr), ((recsOf q).any fun e => e.name == nm) = true → mg nm = some (.ref f) → ∃ (o : Obj) (fd : FuncData) (c P : Addr), h.get? f = some o ∧ o.data = .func fd ∧ fd.code = .ref c ∧ CodeHd h c P ∧ h.TableAt c P #[]
theorem walk_tabs {l : OpenLaw} {n k : Nat} {q : Program} {loose : List Str} {XP : (Str → Option Value) → Heap → Prop} {YP : World → Heap → Prop} {d : DefRec} {K : Params → Frag} {CX : World → CXT} {x : Str}
    (hn : l.most = some n) (hn2 : n ≤ sizeLine) (hdf : d.params.defaults = []) (room : L2.Room k callerA) (hY : ∀ (w : World) (h : Heap), YP w h → (K w.params).In h)
    (F : ∀ (w : World) (mg : Str → Option Value) (fa : Addr) (h : Heap), (K w.params).In h → h.Ns mainGlobals mg → mg d.name = some (.ref fa) → TabsOf q mg h → LamX.LawAtS l w (K w.params) (CX w) k n x mg fa h)
    (hCX : ∀ (w : World) (H : Hp) (s : Shared) (e : Value) (s' : Shared), CX w [] H s (fun _ _ _ => False) e s' → False) :
    WalkO q loose XP YP l.row.toRowW d [] (fun f vs => PySem.call f vs) := by
  refine Att.attach_callB hn hdf fun w _ s mg mb fa _ _ _ _ a vs ns Gd Yh _ _ _ hmg hobj hints hlen hbits hg => ?_
  have KX := hY w _ Yh
  have T : TabsOf q mg s.heap := fun nm f hr hm => by
    obtain ⟨r, rm, rn⟩ := List.any_eq_true.mp hr
    obtain ⟨a, o, fd, c, P, t1, t2, t3, t4, t5, t6⟩ := Gd.T.tab r rm
    rw [beq_iff_eq.mp rn, hm] at t1
    cases t1
    exact ⟨o, fd, c, P, t2, t3, t4, CodeHd.of t5 t6, t6⟩
  obtain ⟨fd, cs, sp, c1, c2, c3, c4, c5, c6⟩ := F w mg fa _ KX Gd.T.g hmg T
  exact LamX.law_callTs KX Gd.T.g Gd.T.b Gd.T.builtins Gd.T.nolimit hg c1 c2 c3 Gd.T.bmain hobj hints (Nat.le_trans hlen hn2) room c6 c4 (fun H hH hS => c5 H a ns hlen hbits hH hS) fun H e s' => hCX w H s e s'
/-- the table of the def at f -/
theorem tab_of {q : Program} {K : Frag} {mg : Str → Option Value} {h : Heap} (KX : K.In h) (T : TabsOf q mg h) {nm : Str} {f c P : Addr} {oc e : Value} {od dd : Option Addr} {fd : FuncData} {osl sl : Array (Option Value)} {vs : Array Value}
    (hr : ((recsOf q).any fun e => e.name == nm) = true) (hm : mg nm = some (.ref f)) (lk : K.lookup f = some ⟨oc, od, .func fd, osl⟩) (cd : fd.code = .ref c) (lc : K.lookup c = some ⟨e, dd, .fields vs, sl⟩) (hv : vs[11]? = some (.ref P)) :
    CodeHd h c P ∧ h.get? P = some { cls := .none, data := .fields #[] } := by
  obtain ⟨o, fd', c', P', t1, t2, t3, t4, t5⟩ := T nm f hr hm
  rw [KX _ _ lk] at t1
  cases t1
  cases t2
  rw [cd] at t3
  cases t3
  obtain ⟨⟨o2, vc, u1, _, u3, u4⟩, u5⟩ := t5
  rw [KX _ _ lc] at u1
  cases u1
  cases u3
  rw [hv] at u4
  cases u4
  exact ⟨t4, u5⟩
theorem tabg0 {H : Hp} {P : Addr} (h : H P = some (.tbl #[])) : GxR.TabG H P := ⟨#[], h, by simp [TriplesOk]⟩
theorem tabB {base : Heap} {mg : Str → Option Value} {c P : Addr} (t : LamX.TabB base mg c P) : GxR.TabB base mg c P := ⟨t.code, t.bm, t.gP⟩
end Sp
end

section
set_option maxHeartbeats 2000000
namespace Sp
open PySem PySem.Spec PyProof.Rows L2
/-- for k, x in enumerate(list): each pair is a new tuple -/
theorem for_enum {K : PySem.W.Frag} {a : Addr} {xs : List V} {g : TG} {tb : TS} {D : Ends} {σ : L2.St} {H : Hp} (Pv : Nat → L2.St → Hp → Prop) (h0 : Pv 0 σ H) (hl : ∀ i σ H, i ≤ xs.length → Pv i σ H → SqL K H a xs)
    (hs : ∀ i x σ H T, xs[i]? = some x → Pv i σ H → H T = none → g (.ref T) σ (upd H T (.tup [.int (i : Nat), x])) fun σ2 H2 => tb { D with nx := Pv (i + 1), ct := Pv (i + 1), bk := D.nx } σ2 H2) (hd : ∀ σ H, Pv xs.length σ H → D.nx σ H) :
    ∃ W : Nat → Nat → L2.St → Hp → Prop, (∃ m, W 0 m σ H) ∧ ∀ i m σ H, W i m σ H →
      ((Ite K a).stop i H ∧ D.nx σ H) ∨ ((Ite K a).go i H ∧ ∃ N : L2.St → Hp → Prop, (∀ s' H', N s' H' → ∃ m', m' < m ∧ W (i + 1) m' s' H') ∧ ∀ x H', (Ite K a).yld i H x H' → g x σ H' fun σ2 H2 => tb { D with nx := N, ct := N, bk := D.nx } σ2 H2) := by
  refine ⟨fun i m σ H => m = xs.length - i ∧ i ≤ xs.length ∧ Pv i σ H, ⟨_, rfl, Nat.zero_le _, h0⟩, ?_⟩
  rintro i m σ H ⟨rfl, hi, p⟩
  have q := hl i σ H hi p
  by_cases lt : i < xs.length
  · refine .inr ⟨⟨xs, xs[i], q, List.getElem?_eq_getElem lt⟩, Pv (i + 1), fun s' H' p' => ⟨xs.length - (i + 1), by omega, rfl, lt, p'⟩, fun x H' y => ?_⟩
    obtain ⟨T, z, rfl, nT, rfl, hz⟩ := y
    exact hs i z σ H T (hz xs q) p nT
  · have e : i = xs.length := by omega
    subst e
    exact .inl ⟨⟨xs, q, Nat.le_refl _⟩, hd σ H p⟩
/-- [f(x) for x in xs if keep(x)]: R is what is wanted of an item, S of one that is left out -/
theorem lc_gen {K : PySem.W.Frag} {a : Addr} {xs : List V} (keep : V → Bool) (f : V → V) {g : TG} {tt : TT} {te : TE} {vs : List Nat} {σ : L2.St} {H1 : Hp} {D : Addr} {Qd : Hp → Prop} (hD : H1 D = none) (hn : xs.length ≤ 1000000)
    (ha : SqL K H1 a xs)
    (hs : ∀ (i : Nat) (z : V) (H : Hp) (R : V → Hp → Prop) (S : Hp → Prop), xs[i]? = some z → Ex [] H1 H → H D ≠ none → (keep z = true → ∀ H4, Ex [] H H4 → R (f z) H4) → (keep z = false → ∀ H4, Ex [] H H4 → S H4) →
      g z (wipe σ vs) H fun σ2 H2 => wipe σ2 vs = wipe σ vs ∧ tt σ2 H2 fun b H3 => if b = true then te σ2 H3 R else S H3)
    (hd : ∀ H, Ex [] H1 H → H D = some (.lst ((xs.filter keep).map f)) → Qd H) :
    ∃ W : Nat → Nat → Hp → Prop, (∃ m, W 0 m (upd H1 D (.lst []))) ∧ ∀ i m H, W i m H →
      ((Itl K a).stop i H ∧ Qd H) ∨ ((Itl K a).go i H ∧ ∃ Nx : Hp → Prop, (∀ H', Nx H' → ∃ m', m' < m ∧ W (i + 1) m' H') ∧ ∀ x H', (Itl K a).yld i H x H' → g x (wipe σ vs) H' fun σ2 H2 => wipe σ2 vs = wipe σ vs ∧ tt σ2 H2 fun b H3 =>
        if b = true then te σ2 H3 fun y H4 => ∃ acc, H4 D = some (.lst acc) ∧ acc.length < sizeLine ∧ Nx (upd H4 D (.lst (acc ++ [y]))) else Nx H3) := by
  have old : ∀ H, Ex [D] (upd H1 D (.lst [])) H → SqL K H a xs := fun H e => by
    rcases ha with (h | ⟨o, h⟩) | h
    · have n := ne_of_none h hD
      exact .inl (.inl (e.keep a _ (n1 n) (by rw [upd_ne n]; exact h) fun _ z => nomatch z))
    · have n := ne_of_none h hD
      exact .inl (.inr ⟨o, e.keep a _ (n1 n) (by rw [upd_ne n]; exact h) fun _ z => nomatch z⟩)
    · exact .inr h
  have fin : ∀ H, Ex [D] (upd H1 D (.lst [])) H → Ex [] H1 H := fun H e => Ex.drop (C := [D]) ((Ex.new hD).trans e) fun x hx => by rw [List.mem_singleton.mp hx]; exact hD
  refine ⟨fun i m H => m = xs.length - i ∧ i ≤ xs.length ∧ Ex [D] (upd H1 D (.lst [])) H ∧ H D = some (.lst (((xs.take i).filter keep).map f)), ⟨_, rfl, Nat.zero_le _, Ex.refl _, upd_same⟩, ?_⟩
  rintro i m H ⟨rfl, hi, e, hh⟩
  by_cases lt : i < xs.length
  · have gi : xs[i]? = some xs[i] := List.getElem?_eq_getElem lt
    refine .inr ⟨⟨_, _, old H e, gi⟩, fun H' => i + 1 ≤ xs.length ∧ Ex [D] (upd H1 D (.lst [])) H' ∧ H' D = some (.lst (((xs.take (i + 1)).filter keep).map f)), fun H' p => ⟨xs.length - (i + 1), by omega, rfl, p⟩, fun x H' y => ?_⟩
    obtain ⟨rfl, hy⟩ := y
    have ex : x = xs[i] := Option.some.inj ((hy _ (old _ e)).symm.trans gi)
    subst ex
    refine hs i xs[i] _ _ _ gi (fin _ e) (by rw [hh]; exact fun z => nomatch z) (fun hk H4 e4 => ?_) (fun hk H4 e4 => ?_)
    · have h4 := e4.lst hh
      refine ⟨_, h4, ?_, lt, (e.trans e4.up).trans (Ex.set h4 (fun _ z => nomatch z) (by simp)), ?_⟩
      · rw [List.length_map]
        have q1 := List.length_filter_le keep (xs.take i)
        rw [List.length_take] at q1
        exact Nat.lt_of_le_of_lt (by omega : _ ≤ 1000000) (by decide)
      · rw [upd_same, List.take_add_one, gi, List.filter_append, List.map_append]
        simp [hk]
    · refine ⟨lt, e.trans e4.up, ?_⟩
      rw [e4.lst hh, List.take_add_one, gi, List.filter_append]
      simp [hk]
  · have ei : i = xs.length := by omega
    subst ei
    rw [List.take_length] at hh
    exact .inl ⟨⟨_, old H e, Nat.le_refl _⟩, hd H (fin H e) hh⟩
/-- [f(x) for x in xs] over whole numbers -/
theorem lc_ints {K : PySem.W.Frag} {a : Addr} {ns : List Int} (f : Int → Int) {g : TG} {tt : TT} {te : TE} {vs : List Nat} {σ : L2.St} {H1 : Hp} {D : Addr} {Qd : Hp → Prop} (hD : H1 D = none) (hn : ns.length ≤ 1000000)
    (ha : SqL K H1 a (ns.map V.int))
    (hs : ∀ (i : Nat) (z : Int) (H : Hp) (R : V → Hp → Prop) (S : Hp → Prop), ns[i]? = some z → Ex [] H1 H → (∀ H4, Ex [] H H4 → R (.int (f z)) H4) →
      g (.int z) (wipe σ vs) H fun σ2 H2 => wipe σ2 vs = wipe σ vs ∧ tt σ2 H2 fun b H3 => if b = true then te σ2 H3 R else S H3)
    (hd : ∀ H, Ex [] H1 H → H D = some (.lst ((ns.map f).map V.int)) → Qd H) :
    ∃ W : Nat → Nat → Hp → Prop, (∃ m, W 0 m (upd H1 D (.lst []))) ∧ ∀ i m H, W i m H →
      ((Itl K a).stop i H ∧ Qd H) ∨ ((Itl K a).go i H ∧ ∃ Nx : Hp → Prop, (∀ H', Nx H' → ∃ m', m' < m ∧ W (i + 1) m' H') ∧ ∀ x H', (Itl K a).yld i H x H' → g x (wipe σ vs) H' fun σ2 H2 => wipe σ2 vs = wipe σ vs ∧ tt σ2 H2 fun b H3 =>
        if b = true then te σ2 H3 fun y H4 => ∃ acc, H4 D = some (.lst acc) ∧ acc.length < sizeLine ∧ Nx (upd H4 D (.lst (acc ++ [y]))) else Nx H3) := by
  refine lc_gen (fun _ => true) (fun v => match v with | .int z => .int (f z) | v => v) hD (by rw [List.length_map]; exact hn) ha (fun i z H R S hz e _ r _ => ?_) fun H e h => hd H e ?_
  · obtain ⟨n, rfl, hn⟩ := map_at hz
    exact hs i n H R S hn e (r rfl)
  · rw [h, List.filter_eq_self.mpr (fun _ _ => rfl), List.map_map, List.map_map]
    rfl
/-- the same over a range -/
theorem lc_rng {lo : Int} {n : Nat} (f : Nat → V) {g : TG} {tt : TT} {te : TE} {vs : List Nat} {σ : L2.St} {H1 : Hp} {D : Addr} {Qd : Hp → Prop} (hD : H1 D = none) (hn : n ≤ 1000000)
    (hs : ∀ (i : Nat) (H : Hp) (R : V → Hp → Prop) (S : Hp → Prop), i < n → Ex [] H1 H → H D ≠ none → (∀ H4, Ex [] H H4 → R (f i) H4) →
      g (.int (lo + i)) (wipe σ vs) H fun σ2 H2 => wipe σ2 vs = wipe σ vs ∧ tt σ2 H2 fun b H3 => if b = true then te σ2 H3 R else S H3)
    (hd : ∀ H, Ex [] H1 H → H D = some (.lst ((List.range n).map f)) → Qd H) :
    ∃ W : Nat → Nat → Hp → Prop, (∃ m, W 0 m (upd H1 D (.lst []))) ∧ ∀ i m H, W i m H →
      ((Itr lo n).stop i H ∧ Qd H) ∨ ((Itr lo n).go i H ∧ ∃ Nx : Hp → Prop, (∀ H', Nx H' → ∃ m', m' < m ∧ W (i + 1) m' H') ∧ ∀ x H', (Itr lo n).yld i H x H' → g x (wipe σ vs) H' fun σ2 H2 => wipe σ2 vs = wipe σ vs ∧ tt σ2 H2 fun b H3 =>
        if b = true then te σ2 H3 fun y H4 => ∃ acc, H4 D = some (.lst acc) ∧ acc.length < sizeLine ∧ Nx (upd H4 D (.lst (acc ++ [y]))) else Nx H3) := by
  have fin : ∀ H, Ex [D] (upd H1 D (.lst [])) H → Ex [] H1 H := fun H e => Ex.drop (C := [D]) ((Ex.new hD).trans e) fun x hx => by rw [List.mem_singleton.mp hx]; exact hD
  refine lc_range (fun i H => i ≤ n ∧ Ex [D] (upd H1 D (.lst [])) H ∧ H D = some (.lst ((List.range i).map f))) ⟨Nat.zero_le _, Ex.refl _, upd_same⟩ (fun i H lt ⟨hi, e, hh⟩ => ?_) fun H ⟨_, e, hh⟩ => hd H (fin H e) hh
  refine hs i H _ _ lt (fin H e) (by rw [hh]; exact fun z => nomatch z) fun H4 e4 => ?_
  have h4 := e4.lst hh
  refine ⟨_, h4, ?_, lt, (e.trans e4.up).trans (Ex.set h4 (fun _ z => nomatch z) (by simp)), ?_⟩
  · rw [List.length_map, List.length_range]
    exact Nat.lt_of_le_of_lt (by omega : _ ≤ 1000000) (by decide)
  · rw [upd_same, List.range_succ, List.map_append]
    rfl
end Sp
end

section
set_option maxHeartbeats 4000000
namespace Sp
open PySem PySem.Spec PyProof.Rows L2
def topS (i : Nat) : Stmt := PySem.Challenge.pw_spillmirror_k05_whole_one_unit_more.main.body.getD i (.Pass ⟨0, 0, 0, 0⟩)

/-! ### whole numbers, rows of days, caps, starts -/
abbrev s_is_whole : Stmt := topS 6
theorem sc_is_whole : FnScope ["thing"] ["thing"] (defScope s_is_whole) := ⟨rfl, rfl, rfl, by decide +kernel, rfl, by decide +kernel, by decide +kernel⟩
def wpL : Nat := 11 + 1
def wp (n : Nat) : Pos := [⟨wpL, 11, wpL, 21⟩, ⟨wpL, 22, wpL, 27⟩, ⟨wpL, 29, wpL, 32⟩, ⟨wpL, 11, wpL, 33⟩, ⟨wpL, 43, wpL, 53⟩, ⟨wpL, 54, wpL, 59⟩, ⟨wpL, 61, wpL, 65⟩, ⟨wpL, 43, wpL, 66⟩, ⟨wpL, 39, wpL, 66⟩, ⟨wpL, 11, wpL, 67⟩, ⟨wpL, 4, wpL, 67⟩].getD n ⟨0, 0, 0, 0⟩
abbrev s_is_amount : Stmt := topS 7
theorem sc_is_amount : FnScope ["thing"] ["thing"] (defScope s_is_amount) := ⟨rfl, rfl, rfl, by decide +kernel, rfl, by decide +kernel, by decide +kernel⟩
abbrev s_is_days : Stmt := topS 8
theorem sc_is_days : FnScope ["thing"] ["thing"] (defScope s_is_days) := ⟨rfl, rfl, rfl, by decide +kernel, rfl, by decide +kernel, by decide +kernel⟩
abbrev s_need_days : Stmt := topS 9
theorem sc_need_days : FnScope ["days"] ["days"] (defScope s_need_days) := ⟨rfl, rfl, rfl, by decide +kernel, rfl, by decide +kernel, by decide +kernel⟩
abbrev s_need_cap : Stmt := topS 10
theorem sc_need_cap : FnScope ["cap"] ["cap"] (defScope s_need_cap) := ⟨rfl, rfl, rfl, by decide +kernel, rfl, by decide +kernel, by decide +kernel⟩
abbrev s_need_start : Stmt := topS 11
theorem sc_need_start : FnScope ["start", "cap"] ["start", "cap"] (defScope s_need_start) := ⟨rfl, rfl, rfl, by decide +kernel, rfl, by decide +kernel, by decide +kernel⟩
abbrev s_day_done : Stmt := topS 13
theorem sc_day_done : FnScope ["content", "day", "cap", "level"] ["content", "day", "cap"] (defScope s_day_done) := ⟨rfl, rfl, rfl, by decide +kernel, rfl, by decide +kernel, by decide +kernel⟩
abbrev s_run : Stmt := topS 14
theorem sc_run : FnScope ["days", "cap", "start", "contents", "spilled", "lacking", "day", "content", "over", "short"] ["days", "cap", "start"] (defScope s_run) := ⟨rfl, rfl, rfl, by decide +kernel, rfl, by decide +kernel, by decide +kernel⟩
section
variable {P : Program} {w : World} {K : PySem.W.Frag} {mg : Str → Option Value} {base : Heap}
theorem plain_ty {H : Hp} {x : V} (p : Plain H x) : ∃ T : String, TyX K H x (.type T) ∧ kitB T "int" = some (isI x) ∧ kitB T "bool" = some (isB x) := by
  cases p with
  | non => exact ⟨_, .base .non, by decide +kernel, by decide +kernel⟩
  | bl b => exact ⟨_, .base (.bl b), (by show _ = some true; decide +kernel), (by show _ = some true; decide +kernel)⟩
  | int i => exact ⟨_, .base (.int i), (by show _ = some true; decide +kernel), (by show _ = some false; decide +kernel)⟩
  | str z => exact ⟨_, .base (.str z), (by show _ = some false; decide +kernel), (by show _ = some false; decide +kernel)⟩
  | lst e => exact ⟨_, .base (.lst e), (by show _ = some false; decide +kernel), (by show _ = some false; decide +kernel)⟩
  | frz e => exact ⟨_, .base (.frz e), (by show _ = some false; decide +kernel), (by show _ = some false; decide +kernel)⟩
  | tup e => exact ⟨_, .base (.tup e), (by show _ = some false; decide +kernel), (by show _ = some false; decide +kernel)⟩
  | dK e => exact ⟨_, .base (.dK e), (by show _ = some false; decide +kernel), (by show _ = some false; decide +kernel)⟩
def spWhole : Sp := fun vs H Q _ => ∃ x : V, vs = [x] ∧ Plain H x ∧ Q (.bl (isW x)) H
theorem ok_whole (d : Df K mg "is_whole" s_is_whole ["thing"]) (B : Blt mg) : FnOk P w K mg base CX0 1 d.f d.fd ["thing"] spWhole := by
  refine d.F.ok sc_is_whole (fun vs H Q E h => ?_) (fun cdv A outer s H vs Q E hr h => ?_)
  · obtain ⟨x, rfl, _⟩ := h
    rfl
  · obtain ⟨x, rfl, pl, q⟩ := h
    obtain ⟨T, ty, ki, kb⟩ := plain_ty (K := K) pl
    refine ⟨_, (pss_one (ps_ret (pe_and (pe_isi B (pv 0) (pe_ty "int" B.int)) (pe_one (pe_not (pe_isi B (pv 0) (pe_ty "bool" B.bool))))))), ?_⟩
    refine ⟨_, rfl, x, .ty "int", _, _, isI x, rfl, .ty _, ty, kit_ty ki, _, rfl, ?_⟩
    cases hi : isI x with
    | false =>
      refine iteF ?_
      rw [isW_eq, hi] at q
      exact q
    | true =>
      refine iteT ?_
      refine ⟨_, rfl, x, .ty "bool", _, _, isB x, rfl, .ty _, ty, kit_ty kb, _, rfl, ?_⟩
      rw [isW_eq, hi] at q
      exact q
def isAmt : V → Bool
  | .int i => decide (0 ≤ i)
  | _ => false
def spAmt : Sp := fun vs H Q _ => ∃ x : V, vs = [x] ∧ Plain H x ∧ Q (.bl (isAmt x)) H
theorem ok_amount (d : Df K mg "is_amount" s_is_amount ["thing"]) (d_is_whole : Df K mg "is_whole" s_is_whole ["thing"]) (B : Blt mg) : FnOk P w K mg base CX0 2 d.f d.fd ["thing"] spAmt := by
  have G_is_whole : FnOk P w K mg base CX0 1 d_is_whole.f d_is_whole.fd ["thing"] spWhole := ok_whole d_is_whole B
  refine d.F.ok sc_is_amount (fun vs H Q E h => ?_) (fun cdv A outer s H vs Q E hr h => ?_)
  · obtain ⟨x, rfl, _⟩ := h
    rfl
  · obtain ⟨x, rfl, pl, q⟩ := h
    refine ⟨_, (pss_one (ps_ret (pe_and (pe_d d_is_whole G_is_whole hr (pa_cons (pv 0) pa_nil)) (pe_one (pe_cmpR op_ge (pv 0) pe_int (nomark _)))))), ?_⟩
    refine ⟨_, rfl, x, rfl, pl, _, rfl, ?_⟩
    cases x with
    | int i =>
      refine iteT ?_
      exact ⟨_, rfl, i, 0, rfl, rfl, q⟩
    | non => exact iteF q
    | bl b => exact iteF q
    | str z => exact iteF q
    | byt z => exact iteF q
    | flt z => exact iteF q
    | ref a => exact iteF q
    | ty n => exact iteF q
/-- is_days, of a list of plain things, or of a plain thing that is none -/
def spDays (K : PySem.W.Frag) (T : Addr) : Sp := fun vs H Q _ => ∃ x : V, vs = [x] ∧
  ((∃ (l : Addr) (ys : List V), x = .ref l ∧ Rd H l (.lst ys) ∧ (∀ y ∈ ys, Plain H y) ∧ GxR.TabG H T ∧ ∀ H2, Ex [] H H2 → GxR.TabG H2 T → Q (.bl (ys.all isW)) H2) ∨
   (∃ N : String, TyX K H x (.type N) ∧ kitB N "list" = some false ∧ Q (.bl false) H))
theorem rd_ty {K : PySem.W.Frag} {H : Hp} {l : Addr} {ys : List V} (h : Rd H l (.lst ys)) : TyX K H (.ref l) (.type "list") := by
  rcases h with h | ⟨o, h⟩
  · exact .base (.lst h)
  · exact .base (.frz h)
theorem ok_days {f cd T : Addr} {kV doc pm ct oc : Value} {an od : Option Addr} {osl : Array (Option Value)} (d_is_whole : Df K mg "is_whole" s_is_whole ["thing"]) (B : Blt mg) (TB : GxR.TabB base mg cd T)
    (lk : K.lookup f = some ⟨oc, od, .func (PySem.W.fnOf "is_days" "is_days" (defArgs s_is_days) (defBody s_is_days) (defScope s_is_days) .none kV doc pm an (.ref cd) ct), osl⟩) (hc : PySem.W.codeIn K (.ref cd) "is_days" = true) :
    FnOk P w K mg base CX0 2 f (PySem.W.fnOf "is_days" "is_days" (defArgs s_is_days) (defBody s_is_days) (defScope s_is_days) .none kV doc pm an (.ref cd) ct) ["thing"] (spDays K T) := by
  refine fn_of lk hc sc_is_days (fun vs H Q E h => ?_) (fun A outer s H vs Q E hr h => ?_)
  · obtain ⟨x, rfl, _⟩ := h
    rfl
  · obtain ⟨x, rfl, h⟩ := h
    obtain ⟨oc1, od1, kV1, doc1, pm1, an1, cdv1, ct1, osl1, e1, lk1, hc1⟩ := d_is_whole.F.ex
    have hb1 : ∀ u : Value, bindArgs (PySem.W.fnOf "is_whole" "is_whole" (defArgs s_is_whole) (wholeBody wp) wholeScope .none kV1 doc1 pm1 an1 cdv1 ct1) ⟨[u], []⟩ = pure [(Str.ofString "thing", u)] := fun _ => rfl
    have lk2 : K.lookup d_is_whole.f = some ⟨oc1, od1, .func (PySem.W.fnOf "is_whole" "is_whole" (defArgs s_is_whole) (wholeBody wp) wholeScope .none kV1 doc1 pm1 an1 cdv1 ct1), osl1⟩ := by
      rw [e1] at lk1
      exact lk1
    refine ⟨_, PSs.nox (pss_one (ps_ret (pe_and (pe_isi B (pv 0) (pe_ty "list" B.list)) (pe_one (pe_allG (k := 1) hr (by rfl) B.all (by decide +kernel) TB rfl
      ⟨rfl, rfl, (by decide +kernel), rfl, rfl, (fun y hy e => absurd e (by revert y; decide +kernel))⟩ (pv 0)
      (elt_whole (k := 1) lk2 hc1 hb1 B.isinstance B.int B.bool d_is_whole.m d_is_whole.F.kp rfl rfl rfl (by decide) hr) (fun _ => rfl)))))), ?_⟩
    rcases h with ⟨l, ys, rfl, hl, hp, ht, q⟩ | ⟨N, ty, kl, q⟩
    · refine ⟨_, rfl, _, .ty "list", _, _, true, rfl, .ty _, rd_ty hl, kit_ty (by decide +kernel), _, rfl, iteT ?_⟩
      exact ⟨_, rfl, l, ys, rfl, rd_seq hl, hp, ht, fun H2 tb => q H2 (Ex.tabbed ht tb) tb.1⟩
    · exact ⟨_, rfl, _, .ty "list", _, _, false, rfl, .ty _, ty, kit_ty kl, _, rfl, iteF q⟩
theorem plain_ints {H : Hp} {ns : List Int} : ∀ y ∈ ns.map V.int, Plain H y := fun y hy => by
  obtain ⟨n, _, rfl⟩ := List.mem_map.mp hy
  exact .int n
theorem all_ints {ns : List Int} : (ns.map V.int).all isW = true := List.all_eq_true.mpr fun y hy => by
  obtain ⟨n, _, rfl⟩ := List.mem_map.mp hy
  rfl
/-- a row of days -/
def spNeedDays (T : Addr) : Sp := fun vs H Q _ => ∃ (l : Addr) (ns : List Int), vs = [.ref l] ∧ Rd H l (.lst (ns.map V.int)) ∧ GxR.TabG H T ∧ ∀ H2, Ex [] H H2 → GxR.TabG H2 T → Q .non H2
theorem ok_need_days {T : Addr} (d : Df K mg "need_days" s_need_days ["days"]) (d_is_days : Df K mg "is_days" s_is_days ["thing"]) (G_is_days : FnOk P w K mg base CX0 2 d_is_days.f d_is_days.fd ["thing"] (spDays K T)) : FnOk P w K mg base CX0 3 d.f d.fd ["days"] (spNeedDays T) := by
  refine d.F.ok sc_need_days (fun vs H Q E h => ?_) (fun cdv A outer s H vs Q E hr h => ?_)
  · obtain ⟨l, ns, rfl, _⟩ := h
    rfl
  · obtain ⟨l, ns, rfl, hl, ht, q⟩ := h
    refine ⟨_, (pss_one (ps_if (pt_not (pt_val (pe_d d_is_days G_is_days hr (pa_cons (pv 0) pa_nil))))
        (pss_one ps_never)
        pss_nil)), ?_⟩
    refine ⟨_, rfl, _, rfl, .inl ⟨l, _, rfl, hl, plain_ints, ht, fun H2 ex t2 => ⟨_, rfl, ?_⟩⟩⟩
    rw [all_ints]
    exact iteF (q H2 ex t2)
def spNeedCap : Sp := fun vs H Q _ => ∃ c : Int, vs = [.int c] ∧ 0 ≤ c ∧ Q .non H
theorem ok_need_cap (d : Df K mg "need_cap" s_need_cap ["cap"]) (d_is_amount : Df K mg "is_amount" s_is_amount ["thing"]) (G_is_amount : FnOk P w K mg base CX0 2 d_is_amount.f d_is_amount.fd ["thing"] spAmt) : FnOk P w K mg base CX0 3 d.f d.fd ["cap"] spNeedCap := by
  refine d.F.ok sc_need_cap (fun vs H Q E h => ?_) (fun cdv A outer s H vs Q E hr h => ?_)
  · obtain ⟨c, rfl, _⟩ := h
    rfl
  · obtain ⟨c, rfl, h0, q⟩ := h
    refine ⟨_, (pss_one (ps_if (pt_not (pt_val (pe_d d_is_amount G_is_amount hr (pa_cons (pv 0) pa_nil))))
        (pss_one ps_never)
        pss_nil)), ?_⟩
    refine ⟨_, rfl, _, rfl, .int c, _, rfl, ?_⟩
    rw [show isAmt (.int c) = true from decide_eq_true h0]
    exact iteF q
def spNeedStart : Sp := fun vs H Q _ => ∃ c m : Int, vs = [.int c, .int m] ∧ 0 ≤ c ∧ c ≤ m ∧ Q .non H
theorem ok_need_start (d : Df K mg "need_start" s_need_start ["start", "cap"]) (d_is_amount : Df K mg "is_amount" s_is_amount ["thing"]) (G_is_amount : FnOk P w K mg base CX0 2 d_is_amount.f d_is_amount.fd ["thing"] spAmt) : FnOk P w K mg base CX0 3 d.f d.fd ["start", "cap"] spNeedStart := by
  refine d.F.ok sc_need_start (fun vs H Q E h => ?_) (fun cdv A outer s H vs Q E hr h => ?_)
  · obtain ⟨c, m, rfl, _⟩ := h
    rfl
  · obtain ⟨c, m, rfl, h0, h1, q⟩ := h
    refine ⟨_, (pss_one (ps_if (PW.pt (pw_or (pt_not (pt_val (pe_d d_is_amount G_is_amount hr (pa_cons (pv 0) pa_nil)))) (pw_or1 (pt_cmpR op_gt (pv 0) (pv 1) (nomark _)))))
        (pss_one ps_never)
        pss_nil)), ?_⟩
    refine ⟨_, rfl, _, rfl, .int c, _, rfl, ?_⟩
    rw [show isAmt (.int c) = true from decide_eq_true h0]
    refine iteF ⟨_, rfl, _, rfl, _, _, rfl, rfl, _, rfl, ?_⟩
    rw [decide_eq_false (show ¬ m < c by omega)]
    exact iteF q
abbrev s_need_tank : Stmt := topS 12
theorem sc_need_tank : FnScope ["days", "cap", "start"] ["days", "cap", "start"] (defScope s_need_tank) := ⟨rfl, rfl, rfl, by decide +kernel, rfl, by decide +kernel, by decide +kernel⟩
def spNeedTank (T : Addr) : Sp := fun vs H Q _ => ∃ (l : Addr) (ns : List Int) (cap c : Int), vs = [.ref l, .int cap, .int c] ∧ Rd H l (.lst (ns.map V.int)) ∧ 0 ≤ c ∧ c ≤ cap ∧ GxR.TabG H T ∧ ∀ H2, Ex [] H H2 → GxR.TabG H2 T → Q .non H2
theorem ok_need_tank {T : Addr} (d : Df K mg "need_tank" s_need_tank ["days", "cap", "start"]) (d_need_days : Df K mg "need_days" s_need_days ["days"]) (d_need_cap : Df K mg "need_cap" s_need_cap ["cap"]) (d_need_start : Df K mg "need_start" s_need_start ["start", "cap"])
    (G_need_days : FnOk P w K mg base CX0 3 d_need_days.f d_need_days.fd ["days"] (spNeedDays T)) (G_need_cap : FnOk P w K mg base CX0 3 d_need_cap.f d_need_cap.fd ["cap"] spNeedCap) (G_need_start : FnOk P w K mg base CX0 3 d_need_start.f d_need_start.fd ["start", "cap"] spNeedStart) :
    FnOk P w K mg base CX0 4 d.f d.fd ["days", "cap", "start"] (spNeedTank T) := by
  refine d.F.ok sc_need_tank (fun vs H Q E h => ?_) (fun cdv A outer s H vs Q E hr h => ?_)
  · obtain ⟨l, ns, cap, c, rfl, _⟩ := h
    rfl
  · obtain ⟨l, ns, cap, c, rfl, hl, h0, h1, ht, q⟩ := h
    refine ⟨_, (pss_cons (ps_expr (pe_d d_need_days G_need_days hr (pa_cons (pv 0) pa_nil)))
      (pss_cons (ps_expr (pe_d d_need_cap G_need_cap hr (pa_cons (pv 1) pa_nil)))
      (pss_one (ps_expr (pe_d d_need_start G_need_start hr (pa_cons (pv 2) (pa_cons (pv 1) pa_nil))))))), ?_⟩
    refine ⟨_, rfl, l, ns, rfl, hl, ht, fun H2 ex2 t2 => ?_⟩
    refine ⟨_, rfl, cap, rfl, by omega, ?_⟩
    exact ⟨_, rfl, _, rfl, c, cap, rfl, h0, h1, q H2 ex2 t2⟩
def spDayDone : Sp := fun vs H Q _ => ∃ c d cap : Int, vs = [.int c, .int d, .int cap] ∧ ∀ t, H t = none → Q (.ref t) (upd H t (.tup [.int (stepC cap c d), .int (stepS cap c d), .int (stepL c d)]))
theorem ok_day_done (d : Df K mg "day_done" s_day_done ["content", "day", "cap"]) (B : Blt mg) : FnOk P w K mg base CX0 1 d.f d.fd ["content", "day", "cap"] spDayDone := by
  refine d.F.ok sc_day_done (fun vs H Q E h => ?_) (fun cdv A outer s H vs Q E hr h => ?_)
  · obtain ⟨c, x, m, rfl, _⟩ := h
    rfl
  · obtain ⟨c, x, m, rfl, q⟩ := h
    refine ⟨_, (pss_cons (ps_set (i := 3) sc_day_done.nd rfl (Or.inl rfl) (pe_op op_add (pv 0) (pv 1)))
      (pss_one (ps_ret (pe_tup (pa_cons (pe_callB (call_min2 rfl) (by rfl) B.min (by decide +kernel) (pa_cons (pe_callB (call_max2 rfl) (by rfl) B.max (by decide +kernel) (pa_cons (pv 3) (pa_cons pe_int pa_nil))) (pa_cons (pv 2) pa_nil))) (pa_cons (pe_callB (call_max2 rfl) (by rfl) B.max (by decide +kernel) (pa_cons (pe_op op_sub (pv 3) (pv 2)) (pa_cons pe_int pa_nil))) (pa_cons (pe_callB (call_max2 rfl) (by rfl) B.max (by decide +kernel) (pa_cons (pe_un un_neg (pv 3)) (pa_cons pe_int pa_nil))) pa_nil))))))), ?_⟩
    refine ⟨_, rfl, _, rfl, c, x, rfl, rfl, ?_⟩
    refine ⟨_, rfl, c + x, 0, rfl, _, rfl, _, _, rfl, ?_⟩
    refine ⟨_, rfl, _, rfl, c + x, m, rfl, rfl, c + x - m, 0, rfl, ?_⟩
    refine ⟨_, rfl, c + x, rfl, -(c + x), 0, rfl, ?_⟩
    exact ⟨by show 3 ≤ sizeLine; decide, fun t ht => q t ht⟩
def spRun (T : Addr) : Sp := fun vs H Q _ => ∃ (l : Addr) (ns : List Int) (cap c : Int), vs = [.ref l, .int cap, .int c] ∧ Rd H l (.lst (ns.map V.int)) ∧ ns.length ≤ 100000 ∧ 0 ≤ c ∧ c ≤ cap ∧ GxR.TabG H T ∧
  ∀ H2 t a b e, Ex [] H H2 → GxR.TabG H2 T → H t = none → H a = none → H b = none → H e = none → a ≠ b → a ≠ e → b ≠ e → H2 t = some (.tup [.ref a, .ref b, .ref e]) → H2 a = some (.lst ((inC cap c ns).map V.int)) → H2 b = some (.lst ((runS cap c ns).map V.int)) → H2 e = some (.lst ((runL cap c ns).map V.int)) → Q (.ref t) H2
theorem ok_run {T : Addr} (d : Df K mg "run" s_run ["days", "cap", "start"]) (d_need_tank : Df K mg "need_tank" s_need_tank ["days", "cap", "start"]) (d_day_done : Df K mg "day_done" s_day_done ["content", "day", "cap"])
    (G_need_tank : FnOk P w K mg base CX0 4 d_need_tank.f d_need_tank.fd ["days", "cap", "start"] (spNeedTank T))
    (G1 : FnOk P w K mg base CX0 1 d_day_done.f d_day_done.fd ["content", "day", "cap"] spDayDone) : FnOk P w K mg base CX0 5 d.f d.fd ["days", "cap", "start"] (spRun T) := by
  have G_day_done := G1.mono (show 1 ≤ 4 by decide)
  refine d.F.ok sc_run (fun vs H Q E h => ?_) (fun cdv A outer s H vs Q E hr h => ?_)
  · obtain ⟨l, ns, cap, c, rfl, _⟩ := h
    rfl
  · obtain ⟨l, ns, cap, c, rfl, hl, hlen, h0, h1, ht, q⟩ := h
    refine ⟨_, (pss_cons (ps_expr (pe_d d_need_tank G_need_tank hr (pa_cons (pv 0) (pa_cons (pv 1) (pa_cons (pv 2) pa_nil)))))
      (pss_cons (ps_set (i := 3) sc_run.nd rfl (Or.inl rfl) (pe_lst (pa_cons (pv 2) pa_nil)))
      (pss_cons (ps_set (i := 4) sc_run.nd rfl (Or.inl rfl) (pe_lst pa_nil))
      (pss_cons (ps_set (i := 5) sc_run.nd rfl (Or.inl rfl) (pe_lst pa_nil))
      (pss_cons (ps_for PassesOwn.never rfl (pi_list (pv 0)) (pg_name (i := 6) sc_run.nd rfl (Or.inl rfl))
        (pss_cons (ps_asg (pe_d d_day_done G_day_done hr (pa_cons (pe_ix ix_list (pv 3) (pe_un un_neg pe_int) (fun _ _ => rfl)) (pa_cons (pv 6) (pa_cons (pv 1) pa_nil)))) (pg_tup (by rfl) (pgs_cons (pg_name (i := 7) sc_run.nd rfl (Or.inl rfl)) (pgs_cons (pg_name (i := 8) sc_run.nd rfl (Or.inl rfl)) (pgs_cons (pg_name (i := 9) sc_run.nd rfl (Or.inl rfl)) pgs_nil)))))
          (pss_cons (ps_expr (pe_bm PySem.F.plainAttrs_list PySem.F.slot_list_append PySem.F.type_list_append mt_append (pv 3) (pa_cons (pv 7) pa_nil)))
          (pss_cons (ps_expr (pe_bm PySem.F.plainAttrs_list PySem.F.slot_list_append PySem.F.type_list_append mt_append (pv 4) (pa_cons (pv 8) pa_nil)))
          (pss_one (ps_expr (pe_bm PySem.F.plainAttrs_list PySem.F.slot_list_append PySem.F.type_list_append mt_append (pv 5) (pa_cons (pv 9) pa_nil))))))))
      (pss_one (ps_ret (pe_tup (pa_cons (pv 3) (pa_cons (pv 4) (pa_cons (pv 5) pa_nil))))))))))), ?_⟩
    refine ⟨_, rfl, _, rfl, _, rfl, l, ns, cap, c, rfl, hl, h0, h1, ht, fun H2 ex2 t2 => ?_⟩
    -- contents = [start]; spilled = []; lacking = []
    refine ⟨_, rfl, (by show 1 ≤ sizeLine; decide), fun a na => ?_⟩
    refine ⟨(by show 0 ≤ sizeLine; decide), fun b nb => ?_⟩
    refine ⟨(by show 0 ≤ sizeLine; decide), fun e ne => ?_⟩
    have nab : a ≠ b := ne_of_none upd_same nb
    have nbe : b ≠ e := ne_of_none upd_same ne
    have nae : a ≠ e := ne_of_none (show upd (upd H2 a _) b _ a = some _ by rw [upd_ne nab]; exact upd_same) ne
    have exn : Ex [] H2 (upd (upd (upd H2 a (.lst [.int c])) b (.lst [])) e (.lst [])) := ((Ex.new na).trans (Ex.new nb)).trans (Ex.new ne)
    have na' : H a = none := ex2.there a na
    have nb' : H b = none := ex2.there b ((Ex.new (C := []) na).there b nb)
    have ne' : H e = none := ex2.there e ((Ex.new (C := []) na).there e ((Ex.new (C := []) nb).there e ne))
    have hl2 := ex2.rd nm hl
    -- for day in days
    have hx : (List.map V.int ns).length = ns.length := List.length_map _
    refine ⟨_, rfl, l, rfl, ⟨_, rd_seq (exn.rd nm hl2)⟩, for_list (K := K) (a := l) (xs := ns.map V.int) (fun i σ H3 => ∃ x6 x7 x8 x9 : Option V, σ = [some (.ref l), some (.int cap), some (.int c), some (.ref a), some (.ref b), some (.ref e), x6, x7, x8, x9] ∧
        Ex [a, b, e] (upd (upd (upd H2 a (.lst [.int c])) b (.lst [])) e (.lst [])) H3 ∧ H3 a = some (.lst ((inC cap c (ns.take i)).map V.int)) ∧ H3 b = some (.lst ((runS cap c (ns.take i)).map V.int)) ∧ H3 e = some (.lst ((runL cap c (ns.take i)).map V.int)))
      ⟨none, none, none, none, rfl, Ex.refl _, ?_, ?_, upd_same⟩ (fun i σ H3 _ ⟨_, _, _, _, _, ex3, _⟩ => ?_) ?_ ?_⟩
    · rw [upd_ne nae, upd_ne nab, upd_same]
      rfl
    · rw [upd_ne nbe, upd_same]
      rfl
    · have hl3 := exn.rd nm hl2
      refine rd_seq (ex3.rd (fun z => ?_) hl3)
      have hle : ∀ y, H2 y = none → l ≠ y := fun y hy z => by
        rcases hl2 with h | ⟨o, h⟩ <;> (rw [z, hy] at h; cases h)
      rcases List.mem_cons.mp z with z | z
      · exact hle a na z
      · rcases List.mem_cons.mp z with z | z
        · exact hle b ((Ex.new (C := []) na).there b nb) z
        · exact hle e ((Ex.new (C := []) na).there e ((Ex.new (C := []) nb).there e ne)) (List.mem_singleton.mp z)
    · rintro i y σ H3 hi ⟨x6, x7, x8, x9, rfl, ex3, ha, hb, he⟩
      obtain ⟨z, rfl, hz⟩ := map_at hi
      have hi2 : i < ns.length := (List.getElem?_eq_some_iff.mp hz).1
      -- content, over, short = day_done(contents[-1], day, cap)
      refine ⟨_, rfl, 1, rfl, a, _, -1, _, rfl, rfl, sq ha, inC_at c (ns.take i), _, rfl, _, rfl, _, z, cap, rfl, fun t nt => ?_⟩
      have nat_ : a ≠ t := ne_of_none ha nt
      have nbt : b ≠ t := ne_of_none hb nt
      have net : e ≠ t := ne_of_none he nt
      refine ⟨t, _, rfl, sqt upd_same, rfl, _, _, rfl, _, _, rfl, _, _, rfl, rfl, ?_⟩
      have l1 : ((inC cap c (ns.take i)).map V.int).length < sizeLine := by
        rw [List.length_map, show (inC cap c (ns.take i)).length = (runC cap c (ns.take i)).length + 1 from rfl, runC_len, List.length_take]
        exact Nat.lt_of_le_of_lt (by omega : _ ≤ 100001) (by decide)
      have l2 : ((runS cap c (ns.take i)).map V.int).length < sizeLine := by
        rw [List.length_map, runS_len, List.length_take]
        exact Nat.lt_of_le_of_lt (by omega : _ ≤ 100001) (by decide)
      have l3 : ((runL cap c (ns.take i)).map V.int).length < sizeLine := by
        rw [List.length_map, runL_len, List.length_take]
        exact Nat.lt_of_le_of_lt (by omega : _ ≤ 100001) (by decide)
      -- contents.append(content); spilled.append(over); lacking.append(short)
      have ha1 : ∀ o, upd H3 t o a = some (.lst ((inC cap c (ns.take i)).map V.int)) := fun o => by rw [upd_ne nat_]; exact ha
      refine ⟨_, rfl, .inl ⟨rfl, _, sq (ha1 _)⟩, _, rfl, a, _, _, rfl, rfl, ha1 _, l1, ?_⟩
      have hb1 : ∀ o o1, upd (upd H3 t o) a o1 b = some (.lst ((runS cap c (ns.take i)).map V.int)) := fun o o1 => by rw [upd_ne nab.symm, upd_ne nbt]; exact hb
      refine ⟨_, rfl, .inl ⟨rfl, _, sq (hb1 _ _)⟩, _, rfl, b, _, _, rfl, rfl, hb1 _ _, l2, ?_⟩
      have he1 : ∀ o o1 o2, upd (upd (upd H3 t o) a o1) b o2 e = some (.lst ((runL cap c (ns.take i)).map V.int)) := fun o o1 o2 => by rw [upd_ne nbe.symm, upd_ne nae.symm, upd_ne net]; exact he
      refine ⟨_, rfl, .inl ⟨rfl, _, sq (he1 _ _ _)⟩, _, rfl, e, _, _, rfl, rfl, he1 _ _ _, l3, ?_⟩
      refine ⟨_, _, _, _, rfl, ?_, ?_, ?_, ?_⟩
      · refine ex3.trans (((Ex.new nt).trans (Ex.set (ha1 _) (fun _ z => nomatch z) (by simp))).trans ((Ex.set (hb1 _ _) (fun _ z => nomatch z) (by simp)).trans (Ex.set (he1 _ _ _) (fun _ z => nomatch z) (by simp))))
      · rw [upd_ne nae, upd_ne nab, upd_same, take_succ hz]
        unfold inC
        rw [runC_app, List.map_cons, List.map_cons, List.map_append]
        rfl
      · rw [upd_ne nbe, upd_same, take_succ hz, runS_app, List.map_append]
        rfl
      · rw [upd_same, take_succ hz, runL_app, List.map_append]
        rfl
    · rintro σ H3 ⟨x6, x7, x8, x9, rfl, ex3, ha, hb, he⟩
      rw [hx, List.take_length] at ha hb he
      -- return (contents, spilled, lacking)
      refine ⟨_, rfl, _, rfl, _, rfl, (by show 3 ≤ sizeLine; decide), fun t nt => ?_⟩
      have ex4 : Ex [a, b, e] H2 (upd H3 t (.tup [.ref a, .ref b, .ref e])) := (exn.up.trans ex3).trans (Ex.new nt)
      have nin : ∀ y ∈ [a, b, e], H2 y = none := fun y hy => by
        rcases List.mem_cons.mp hy with rfl | hy
        · exact na
        · rcases List.mem_cons.mp hy with rfl | hy
          · exact (Ex.new (C := []) na).there _ nb
          · rw [List.mem_singleton.mp hy]
            exact (Ex.new (C := []) na).there e ((Ex.new (C := []) nb).there e ne)
      refine q _ t a b e (ex2.trans (ex4.drop nin)) (ex4.tab T t2) ?_ na' nb' ne' nab nae nbe upd_same ?_ ?_ ?_
      · exact ex2.there t ((exn.up.trans ex3).there t nt)
      · rw [upd_ne (ne_of_none ha nt)]; exact ha
      · rw [upd_ne (ne_of_none hb nt)]; exact hb
      · rw [upd_ne (ne_of_none he nt)]; exact he
end

/-! ### what the law draws -/
abbrev s__law_cask : Stmt := topS 16
theorem sc__law_cask : FnScope ["script", "k", "cell"] ["script", "k"] (defScope s__law_cask) := ⟨rfl, rfl, rfl, by decide +kernel, rfl, by decide +kernel, by decide +kernel⟩
abbrev s__law_tap : Stmt := topS 17
theorem sc__law_tap : FnScope ["cask", "wide", "found", "mixed"] ["cask", "wide"] (defScope s__law_tap) := ⟨rfl, rfl, rfl, by decide +kernel, rfl, by decide +kernel, by decide +kernel⟩
abbrev s__law_days : Stmt := topS 18
theorem sc__law_days : FnScope ["cask", "most", "wide", "found", "lean", "k", "size"] ["cask", "most", "wide"] (defScope s__law_days) := ⟨rfl, rfl, rfl, by decide +kernel, rfl, by decide +kernel, by decide +kernel⟩
abbrev s__law_cap : Stmt := topS 19
theorem sc__law_cap : FnScope ["cask", "wide"] ["cask", "wide"] (defScope s__law_cap) := ⟨rfl, rfl, rfl, by decide +kernel, rfl, by decide +kernel, by decide +kernel⟩
section
variable {P : Program} {w : World} {K : PySem.W.Frag} {mg : Str → Option Value} {base : Heap}
def spCask (K : PySem.W.Frag) : Sp := fun vs H Q _ => ∃ (l : Addr) (ns : List Int) (k : Int), vs = [.ref l, .int k] ∧ SqL K H l (ns.map V.int) ∧ 0 ≤ k ∧ k ≤ 100 ∧ ∀ p H', Ex [] H H' → H p = none → CaskAt H' p 0 → Q (.ref p) H'
theorem ok__law_cask (d : Df K mg "_law_cask" s__law_cask ["script", "k"]) (B : Blt mg) : FnOk P w K mg base CX0 1 d.f d.fd ["script", "k"] (spCask K) := by
  refine d.F.ok sc__law_cask (fun vs H Q E h => ?_) (fun cdv A outer s H vs Q E hr h => ?_)
  · obtain ⟨l, ns, k, rfl, _⟩ := h
    rfl
  · obtain ⟨l, ns, k, rfl, hl, h0, h1, q⟩ := h
    refine ⟨_, (pss_cons (ps_set (i := 2) sc__law_cask.nd rfl (Or.inl rfl) pe_int)
      (pss_cons (ps_if (pt_cmpR op_lt (pv 1) (pe_callB call_len_seq (by rfl) B.len PySem.boot_len (pa_cons (pv 0) pa_nil)) (nomark _))
        (pss_one (ps_set (i := 2) sc__law_cask.nd rfl (Or.inl rfl) (pe_ix ix_list (pv 0) (pv 1) (fun _ _ => rfl))))
        pss_nil)
      (pss_one (ps_ret (pe_lst (pa_cons (pe_callB (call_max2 rfl) (by rfl) B.max (by decide +kernel) (pa_cons pe_int (pa_cons (pe_op op_sub (pe_callB call_abs (by rfl) B.abs (by decide +kernel) (pa_cons (pv 2) pa_nil)) (pe_op op_powC pe_int pe_int)) pa_nil))) (pa_cons (pe_op op_add (pe_op op_mod (pv 2) (pe_op op_add (pe_op op_powC pe_int pe_int) pe_int)) (pe_op op_mul pe_int (pv 1))) (pa_cons pe_int pa_nil)))))))), ?_⟩
    refine ⟨_, rfl, _, rfl, l, _, rfl, .inl hl, _, _, rfl, rfl, _, rfl, ?_⟩
    refine ite2 (fun c => ?_) (fun c => ?_)
    · have c' : k < (((ns.map V.int).length : Nat) : Int) := of_decide_eq_true c
      rw [List.length_map] at c'
      obtain ⟨j, rfl⟩ : ∃ j : Nat, k = (j : Int) := ⟨k.toNat, by omega⟩
      have hj : j < ns.length := by omega
      refine ⟨_, rfl, _, rfl, l, _, j, _, rfl, rfl, hl, atI_nat (by rw [List.getElem?_map, List.getElem?_eq_getElem hj]; rfl), ?_⟩
      refine ⟨_, rfl, ns[j], rfl, _, _, 1000000000000000000, rfl, rfl, ⟨by decide, by decide, by decide⟩, by decide, _, _, rfl, rfl, _, _, rfl, ?_⟩
      refine ⟨_, rfl, _, _, 10000000000000000000000000000000000000, rfl, rfl, ⟨by decide, by decide, by decide⟩, by decide, _, _, rfl, rfl, _, _, rfl, rfl, (by show (0 : Int) < 10000000000000000000000000000000000000 + 43; decide), _, rfl, _, _, rfl, rfl, .inl ⟨by decide, by decide⟩, _, _, rfl, rfl, (by show 3 ≤ sizeLine; decide), fun p hp => ?_⟩
      have m := mod_lt (a := ns[j]) (b := 10000000000000000000000000000000000000 + 43) (by decide)
      exact q p _ (Ex.new hp) hp ⟨_, _, _, upd_same, by split <;> omega, by omega, by omega, by decide, by decide⟩
    · refine ⟨_, rfl, 0, rfl, _, _, 1000000000000000000, rfl, rfl, ⟨by decide, by decide, by decide⟩, by decide, _, _, rfl, rfl, _, _, rfl, ?_⟩
      refine ⟨_, rfl, _, _, 10000000000000000000000000000000000000, rfl, rfl, ⟨by decide, by decide, by decide⟩, by decide, _, _, rfl, rfl, _, _, rfl, rfl, (by show (0 : Int) < 10000000000000000000000000000000000000 + 43; decide), _, rfl, _, _, rfl, rfl, .inl ⟨by decide, by decide⟩, _, _, rfl, rfl, (by show 3 ≤ sizeLine; decide), fun p hp => ?_⟩
      have m := mod_lt (a := 0) (b := 10000000000000000000000000000000000000 + 43) (by decide)
      exact q p _ (Ex.new hp) hp ⟨_, _, _, upd_same, by split <;> omega, by omega, by omega, by decide, by decide⟩
def spTap : Sp := fun vs H Q _ => ∃ (c : Addr) (M wide : Int), vs = [.ref c, .int wide] ∧ CaskAt H c M ∧ M ≤ 1000000 ∧ 0 < wide ∧ wide < 100000000000000000000 ∧ ∀ (r : Int) H', 0 ≤ r → r < wide → Ex [c] H H' → CaskAt H' c (M + 1) → Q (.int r) H'
theorem ok__law_tap (d : Df K mg "_law_tap" s__law_tap ["cask", "wide"]) (B : Blt mg) : FnOk P w K mg base CX0 1 d.f d.fd ["cask", "wide"] spTap := by
  refine d.F.ok sc__law_tap (fun vs H Q E h => ?_) (fun cdv A outer s H vs Q E hr h => ?_)
  · obtain ⟨c, M, wide, rfl, _⟩ := h
    rfl
  · obtain ⟨c, M, wide, rfl, ⟨a, b, n, e, ha, hb, hb2, hn, hn2⟩, hM, w0, w1, q⟩ := h
    refine ⟨_, (pss_cons (ps_if (pt_cmpR op_gt (pe_ix ix_list (pv 0) pe_int (fun _ _ => rfl)) pe_int (nomark _))
        (pss_cons (ps_set (i := 2) sc__law_tap.nd rfl (Or.inl rfl) (pe_op op_mod (pe_ix ix_list (pv 0) pe_int (fun _ _ => rfl)) (pv 1)))
          (pss_cons (ps_asg (pe_op op_fdivW (pe_ix ix_list (pv 0) pe_int (fun _ _ => rfl)) (pv 1)) (pg_sub (pv 0) pe_int set_list))
          (pss_one (ps_ret (pv 2)))))
        pss_nil)
      (pss_cons (ps_asg (pe_op op_add (pe_ix ix_list (pv 0) pe_int (fun _ _ => rfl)) pe_int) (pg_sub (pv 0) pe_int set_list))
      (pss_cons (ps_set (i := 3) sc__law_tap.nd rfl (Or.inl rfl) (pe_op op_mod (pe_op op_powW (pe_op op_add (pe_ix ix_list (pv 0) pe_int (fun _ _ => rfl)) (pe_op op_mul pe_int (pe_ix ix_list (pv 0) pe_int (fun _ _ => rfl)))) pe_int) (pe_op op_add (pe_op op_powC pe_int pe_int) pe_int)))
      (pss_cons (ps_set (i := 3) sc__law_tap.nd rfl (Or.inl rfl) (pe_op op_mod (pe_op op_powW (pe_op op_add (pv 3) (pe_op op_mul pe_int (pe_ix ix_list (pv 0) pe_int (fun _ _ => rfl)))) pe_int) (pe_op op_add (pe_op op_powC pe_int pe_int) pe_int)))
      (pss_one (ps_ret (pe_op op_mod (pe_op op_fdivW (pv 3) pe_int) (pv 1)))))))), ?_⟩
    have m := mod_lt (a := a) (b := wide) w0
    refine ⟨_, rfl, c, _, _, _, rfl, rfl, sq e, atI_nat (j := 0) rfl, _, _, rfl, rfl, _, rfl, ?_⟩
    refine ite2 (fun k => ?_) (fun k => ?_)
    · refine ⟨_, rfl, c, _, _, _, rfl, rfl, sq e, atI_nat (j := 0) rfl, _, rfl, _, _, rfl, rfl, w0, ?_⟩
      refine ⟨_, rfl, c, _, _, _, rfl, rfl, sq e, atI_nat (j := 0) rfl, _, rfl, _, _, rfl, rfl, divW w0 (by omega), _, rfl, c, _, _, 0, rfl, rfl, e, rfl, ?_⟩
      refine ⟨_, rfl, q _ _ m.1 m.2 (Ex.set e (fun _ z => nomatch z) (by simp)) ⟨_, b, n, upd_same, Int.ediv_nonneg ha (by omega), hb, hb2, hn, by omega⟩⟩
    · refine ⟨_, rfl, c, _, _, _, rfl, rfl, sq e, atI_nat (j := 2) rfl, _, _, rfl, rfl, _, rfl, c, _, _, 2, rfl, rfl, e, rfl, ?_⟩
      have e2 : upd H c (.lst ([V.int a, .int b, .int n].set 2 (.int (n + 1)))) c = some (.lst [V.int a, .int b, .int (n + 1)]) := upd_same
      refine ⟨_, rfl, c, _, _, _, rfl, rfl, sq e2, atI_nat (j := 1) rfl, _, rfl, c, _, _, _, rfl, rfl, sq e2, atI_nat (j := 2) rfl, _, _, rfl, rfl, .inl ⟨by decide, by decide⟩, _, _, rfl, rfl, ?_⟩
      refine ⟨_, _, rfl, rfl, powW (by omega) (by omega), _, _, 100000000000000000000000000000000000000, rfl, rfl, ⟨by decide, by decide, by decide⟩, by decide, _, _, rfl, rfl, _, _, rfl, rfl, (by show (0 : Int) < 100000000000000000000000000000000000000 + 133; decide), ?_⟩
      have m1 := mod_lt (a := (b + 86028121 * (n + 1)) ^ (3 : Int).toNat) (b := 100000000000000000000000000000000000000 + 133) (by decide)
      refine ⟨_, rfl, _, rfl, c, _, _, _, rfl, rfl, sq e2, atI_nat (j := 2) rfl, _, _, rfl, rfl, .inl ⟨by decide, by decide⟩, _, _, rfl, rfl, ?_⟩
      refine ⟨_, _, rfl, rfl, powW (by omega) (by omega), _, _, 100000000000000000000000000000000000, rfl, rfl, ⟨by decide, by decide, by decide⟩, by decide, _, _, rfl, rfl, _, _, rfl, rfl, (by show (0 : Int) < 100000000000000000000000000000000000 + 69; decide), ?_⟩
      refine ⟨_, rfl, _, _, rfl, rfl, divW (by decide) (by decide), _, rfl, _, _, rfl, rfl, w0, ?_⟩
      exact q _ _ (mod_lt w0).1 (mod_lt w0).2 (Ex.set e (fun _ z => nomatch z) (by simp)) ⟨a, b, n + 1, e2, ha, hb, hb2, by omega, by omega⟩
/-- an item of a list of ints -/
theorem at3 {xs : List Int} {i : Int} (h0 : 0 ≤ i) (h1 : i < (xs.length : Int)) : ∃ z, z ∈ xs ∧ atI (xs.map V.int) i = some (.int z) := by
  obtain ⟨j, rfl⟩ : ∃ j : Nat, i = (j : Int) := ⟨i.toNat, by omega⟩
  have hj : j < xs.length := by omega
  exact ⟨xs[j], List.getElem_mem hj, atI_nat (by rw [List.getElem?_map, List.getElem?_eq_getElem hj]; rfl)⟩
def spLawDays : Sp := fun vs H Q _ => ∃ (c : Addr) (M most wide : Int), vs = [.ref c, .int most, .int wide] ∧ CaskAt H c M ∧ M ≤ 900000 ∧ 0 ≤ most ∧ most ≤ 1000 ∧ 0 < wide ∧ wide ≤ 1000000000000000000 ∧
  ∀ p (ds : List Int) H', Ex [c] H H' → H p = none → CaskAt H' c (M + 2 + 5 * most) → H' p = some (.lst (ds.map V.int)) → (ds.length : Int) ≤ most → (∀ d ∈ ds, -(wide + 20) < d ∧ d < wide + 20) → Q (.ref p) H'
theorem ok__law_days (d : Df K mg "_law_days" s__law_days ["cask", "most", "wide"]) (d__law_tap : Df K mg "_law_tap" s__law_tap ["cask", "wide"]) (B : Blt mg) (G__law_tap : FnOk P w K mg base CX0 1 d__law_tap.f d__law_tap.fd ["cask", "wide"] spTap) : FnOk P w K mg base CX0 2 d.f d.fd ["cask", "most", "wide"] spLawDays := by
  refine d.F.ok sc__law_days (fun vs H Q E h => ?_) (fun cdv A outer s H vs Q E hr h => ?_)
  · obtain ⟨c, M, most, wide, rfl, _⟩ := h
    rfl
  · obtain ⟨c, M, most, wide, rfl, kc, hM, m0, m1, w0, w1, q⟩ := h
    refine ⟨_, (pss_cons (ps_set (i := 3) sc__law_days.nd rfl (Or.inl rfl) (pe_lst pa_nil))
      (pss_cons (ps_set (i := 4) sc__law_days.nd rfl (Or.inl rfl) (pe_d d__law_tap G__law_tap hr (pa_cons (pv 0) (pa_cons pe_int pa_nil))))
      (pss_cons (ps_for PassesOwn.never rfl (pi_range1 (by rfl) B.range (pa_cons (pe_d d__law_tap G__law_tap hr (pa_cons (pv 0) (pa_cons (pe_op op_add (pv 1) pe_int) pa_nil))) pa_nil)) (pg_name (i := 5) sc__law_days.nd rfl (Or.inl rfl))
        (pss_cons (ps_set (i := 6) sc__law_days.nd rfl (Or.inl rfl) (pe_ix ix_list (pe_lst (pa_cons (pe_d d__law_tap G__law_tap hr (pa_cons (pv 0) (pa_cons pe_int pa_nil))) (pa_cons (pe_d d__law_tap G__law_tap hr (pa_cons (pv 0) (pa_cons pe_int pa_nil))) (pa_cons (pe_d d__law_tap G__law_tap hr (pa_cons (pv 0) (pa_cons (pv 2) pa_nil))) pa_nil)))) (pe_d d__law_tap G__law_tap hr (pa_cons (pv 0) (pa_cons (pe_op op_add pe_int (pv 4)) pa_nil))) (fun _ _ => rfl)))
          (pss_one (ps_expr (pe_bm PySem.F.plainAttrs_list PySem.F.slot_list_append PySem.F.type_list_append mt_append (pv 3) (pa_cons (pe_op op_mul (pv 6) (pe_ix ix_list (pe_lst (pa_cons pe_int (pa_cons (pe_un un_neg pe_int) pa_nil))) (pe_d d__law_tap G__law_tap hr (pa_cons (pv 0) (pa_cons pe_int pa_nil))) (fun _ _ => rfl))) pa_nil))))))
      (pss_one (ps_ret (pv 3)))))), ?_⟩
    refine ⟨(by show 0 ≤ sizeLine; decide), fun f nf => ?_⟩
    have ncf := kc.ne nf
    have x1 : Ex [c, f] H (upd H f (.lst [])) := Ex.new nf
    refine ⟨_, rfl, c, M, 3, rfl, kc.ex (Ex.new (C := []) nf) nm, by omega, by decide, by decide, fun lean H1 l0 l1 e1 k1 => ?_⟩
    refine ⟨_, rfl, _, rfl, _, _, rfl, rfl, c, M + 1, most + 1, rfl, k1, by omega, by omega, by omega, fun n H2 b0 b1 e2 k2 => ?_⟩
    have hf2 : H2 f = some (.lst []) := e2.at (e1.at upd_same (n1 (c := c) ncf.symm)) (n1 ncf.symm)
    refine ⟨n, rfl, by omega, by omega, for_range (lo := 0) (n := n.toNat) (fun i σ H3 => ∃ (x5 x6 : Option V) (ds : List Int), σ = [some (.ref c), some (.int most), some (.int wide), some (.ref f), some (.int lean), x5, x6] ∧
        Ex [c, f] H H3 ∧ CaskAt H3 c (M + 2 + 5 * (i : Int)) ∧ H3 f = some (.lst (ds.map V.int)) ∧ ds.length = i ∧ ∀ d ∈ ds, -(wide + 20) < d ∧ d < wide + 20)
      ⟨none, none, [], rfl, ?_, k2.le (by omega), hf2, rfl, fun _ h => nomatch h⟩ ?_ ?_⟩
    · exact (x1.trans (e1.mono (by simp))).trans (e2.mono (by simp))
    · rintro i σ H3 hi ⟨x5, x6, ds, rfl, x3, k3, hf3, hl, hb⟩
      have hi2 : (i : Int) < n := by omega
      refine ⟨_, rfl, c, _, 4, rfl, k3, by omega, by decide, by decide, fun r1 H4 p1 p2 y4 k4 => ?_⟩
      refine ⟨_, rfl, c, _, 20, rfl, k4, by omega, by decide, by decide, fun r2 H5 p3 p4 y5 k5 => ?_⟩
      refine ⟨_, rfl, _, rfl, c, _, wide, rfl, k5, by omega, by omega, by omega, fun r3 H6 p5 p6 y6 k6 => ?_⟩
      refine ⟨(by show 3 ≤ sizeLine; decide), fun p hp => ?_⟩
      have ncp := k6.ne hp
      refine ⟨_, rfl, _, rfl, _, _, rfl, rfl, c, _, 1 + lean, rfl, k6.ex (Ex.new (C := []) hp) nm, by omega, by omega, by omega, fun r4 H7 p7 p8 y7 k7 => ?_⟩
      have hp7 : H7 p = some (.lst ([r1, r2, r3].map V.int)) := y7.at upd_same (n1 ncp.symm)
      obtain ⟨z, hz, ez⟩ := at3 (xs := [r1, r2, r3]) p7 (by show r4 < (3 : Int); omega)
      have zb : 0 ≤ z ∧ z < wide + 20 := by
        simp only [List.mem_cons, List.not_mem_nil, or_false] at hz
        omega
      refine ⟨p, _, _, _, rfl, rfl, sq hp7, ez, ?_⟩
      -- found.append(size * [1, -1][tap])
      have y36 : Ex [c] H3 H6 := (y4.trans y5).trans y6
      have hf6 : H6 f = some (.lst (ds.map V.int)) := y36.at hf3 (n1 ncf.symm)
      have nfp := ne_of_none hf6 hp
      have hf7 : H7 f = some (.lst (ds.map V.int)) := y7.at (by rw [upd_ne nfp]; exact hf6) (n1 ncf.symm)
      refine ⟨_, rfl, .inl ⟨rfl, _, sq hf7⟩, ?_⟩
      refine ⟨_, rfl, 1, rfl, (by show 2 ≤ sizeLine; decide), fun u hu => ?_⟩
      refine ⟨_, rfl, c, _, 2, rfl, k7.ex (Ex.new (C := []) hu) nm, by omega, by decide, by decide, fun r5 H8 p9 p10 y8 k8 => ?_⟩
      have ncu := k7.ne hu
      have nfu := ne_of_none hf7 hu
      have hu8 : H8 u = some (.lst ([1, -1].map V.int)) := y8.at upd_same (n1 ncu.symm)
      have hf8 : H8 f = some (.lst (ds.map V.int)) := y8.at (by rw [upd_ne nfu]; exact hf7) (n1 ncf.symm)
      obtain ⟨v, hv, ev⟩ := at3 (xs := [1, -1]) p9 (by show r5 < (2 : Int); omega)
      have vb : v = 1 ∨ v = -1 := by
        simp only [List.mem_cons, List.not_mem_nil, or_false] at hv
        exact hv
      refine ⟨u, _, _, _, rfl, rfl, sq hu8, ev, _, _, rfl, rfl, .inl ⟨by omega, by omega⟩, f, _, _, rfl, rfl, hf8, ?_, ?_⟩
      · rw [List.length_map, hl]
        exact Nat.lt_of_le_of_lt (by omega : i ≤ 2000) (by decide)
      · refine ⟨_, _, ds ++ [z * v], rfl, ?_, ?_, ?_, ?_, ?_⟩
        · refine x3.trans (((y36.mono (by simp)).trans (Ex.new hp)).trans ((y7.mono (by simp)).trans ((Ex.new hu).trans ((y8.mono (by simp)).trans (Ex.set hf8 (fun _ z => nomatch z) (by simp))))))
        · exact (k8.ex (Ex.set hf8 (fun _ z => nomatch z) (C := [f]) (by simp)) (n1 ncf)).le (by omega)
        · rw [upd_same, List.map_append]
          rfl
        · rw [List.length_append, hl]
          rfl
        · intro d hd
          rcases List.mem_append.mp hd with hd | hd
          · exact hb d hd
          · rw [List.mem_singleton.mp hd]
            rcases vb with rfl | rfl <;> omega
    · rintro σ H3 ⟨x5, x6, ds, rfl, x3, k3, hf3, hl, hb⟩
      refine ⟨_, rfl, q f ds H3 (x3.less fun x hx => ?_) nf (k3.le (by omega)) hf3 (by omega) hb⟩
      rcases List.mem_cons.mp hx with rfl | hx
      · exact .inl (List.mem_singleton.mpr rfl)
      · rw [List.mem_singleton.mp hx]
        exact .inr nf
def spLawCap : Sp := fun vs H Q _ => ∃ (c : Addr) (M wide : Int), vs = [.ref c, .int wide] ∧ CaskAt H c M ∧ M ≤ 900000 ∧ 0 < wide ∧ wide ≤ 1000000000000000000 ∧
  ∀ (r : Int) H', 0 ≤ r → r < wide + 30 → Ex [c] H H' → CaskAt H' c (M + 4) → Q (.int r) H'
theorem ok__law_cap (d : Df K mg "_law_cap" s__law_cap ["cask", "wide"]) (d__law_tap : Df K mg "_law_tap" s__law_tap ["cask", "wide"]) (G__law_tap : FnOk P w K mg base CX0 1 d__law_tap.f d__law_tap.fd ["cask", "wide"] spTap) : FnOk P w K mg base CX0 2 d.f d.fd ["cask", "wide"] spLawCap := by
  refine d.F.ok sc__law_cap (fun vs H Q E h => ?_) (fun cdv A outer s H vs Q E hr h => ?_)
  · obtain ⟨c, M, wide, rfl, _⟩ := h
    rfl
  · obtain ⟨c, M, wide, rfl, kc, hM, w0, w1, q⟩ := h
    refine ⟨_, (pss_one (ps_ret (pe_ix ix_list (pe_lst (pa_cons (pe_d d__law_tap G__law_tap hr (pa_cons (pv 0) (pa_cons pe_int pa_nil))) (pa_cons (pe_d d__law_tap G__law_tap hr (pa_cons (pv 0) (pa_cons pe_int pa_nil))) (pa_cons (pe_d d__law_tap G__law_tap hr (pa_cons (pv 0) (pa_cons (pv 1) pa_nil))) pa_nil)))) (pe_d d__law_tap G__law_tap hr (pa_cons (pv 0) (pa_cons pe_int pa_nil))) (fun _ _ => rfl)))), ?_⟩
    refine ⟨_, rfl, c, _, 4, rfl, kc, by omega, by decide, by decide, fun r1 H4 p1 p2 y4 k4 => ?_⟩
    refine ⟨_, rfl, c, _, 30, rfl, k4, by omega, by decide, by decide, fun r2 H5 p3 p4 y5 k5 => ?_⟩
    refine ⟨_, rfl, _, rfl, c, _, wide, rfl, k5, by omega, by omega, by omega, fun r3 H6 p5 p6 y6 k6 => ?_⟩
    refine ⟨(by show 3 ≤ sizeLine; decide), fun p hp => ?_⟩
    have ncp := k6.ne hp
    refine ⟨_, rfl, c, _, 3, rfl, k6.ex (Ex.new (C := []) hp) nm, by omega, by omega, by omega, fun r4 H7 p7 p8 y7 k7 => ?_⟩
    have hp7 : H7 p = some (.lst ([r1, r2, r3].map V.int)) := y7.at upd_same (n1 ncp.symm)
    obtain ⟨z, hz, ez⟩ := at3 (xs := [r1, r2, r3]) p7 (by show r4 < (3 : Int); omega)
    have zb : 0 ≤ z ∧ z < wide + 30 := by
      simp only [List.mem_cons, List.not_mem_nil, or_false] at hz
      omega
    exact ⟨p, _, _, _, rfl, rfl, sq hp7, ez, q z _ zb.1 zb.2 (((y4.trans y5).trans y6).trans ((Ex.new hp).trans y7)) (k7.le (by omega))⟩
end
end Sp
end

section
set_option maxHeartbeats 4000000
namespace Sp
open PySem PySem.Spec PyProof.Rows L2

/-! ### the mathematics: two tanks side by side -/
/-- one unit more to start with: what more there is, day by day -/
theorem more_step {cap c e d : Int} (h0 : 0 ≤ c) (h1 : c + e ≤ cap) (he : e = 0 ∨ e = 1) :
    ∃ e', (e' = 0 ∨ e' = 1) ∧ e' ≤ e ∧ stepC cap (c + e) d = stepC cap c d + e' ∧ 0 ≤ stepS cap (c + e) d - stepS cap c d ∧ stepL (c + e) d - stepL c d ≤ 0 ∧ (stepS cap (c + e) d - stepS cap c d) - (stepL (c + e) d - stepL c d) = e - e' ∧ stepC cap c d + e' ≤ cap := by
  have a := step_cases (cap := cap) (c := c) (d := d) (by omega)
  have b := step_cases (cap := cap) (c := c + e) (d := d) (by omega)
  refine ⟨stepC cap (c + e) d - stepC cap c d, ?_⟩
  generalize stepC cap c d = a1 at *
  generalize stepS cap c d = a2 at *
  generalize stepL c d = a3 at *
  generalize stepC cap (c + e) d = b1 at *
  generalize stepS cap (c + e) d = b2 at *
  generalize stepL (c + e) d = b3 at *
  rcases a with a | a | a <;> rcases b with b | b | b <;> refine ⟨?_, ?_, ?_, ?_, ?_, ?_, ?_⟩ <;> omega
def apart (xs ys : List Int) : List Int := List.zipWith (fun x y => y - x) xs ys
/-- ones, then noughts -/
inductive Falls : Int → List Int → Prop
  | nil (e : Int) : (e = 0 ∨ e = 1) → Falls e [e]
  | cons (e e' : Int) (xs : List Int) : (e = 0 ∨ e = 1) → e' ≤ e → Falls e' xs → Falls e (e :: xs)
/-- over less short is one just where the ones end -/
inductive Ends : List Int → List Int → Prop
  | nil (e : Int) : Ends [e] []
  | cons (e e' : Int) (xs os : List Int) : Ends (e' :: xs) os → Ends (e :: e' :: xs) ((e - e') :: os)
theorem more_run {cap : Int} : ∀ (ds : List Int) (c e : Int), 0 ≤ c → c + e ≤ cap → (e = 0 ∨ e = 1) →
    ∃ xs, apart (inC cap c ds) (inC cap (c + e) ds) = e :: xs ∧ Falls e (e :: xs) ∧ Ends (e :: xs) (List.zipWith (fun x y => x - y) (apart (runS cap c ds) (runS cap (c + e) ds)) (apart (runL cap c ds) (runL cap (c + e) ds))) ∧
      (∀ z ∈ apart (runS cap c ds) (runS cap (c + e) ds), 0 ≤ z) ∧ (∀ z ∈ apart (runL cap c ds) (runL cap (c + e) ds), z ≤ 0)
  | [], c, e, h0, h1, he => by
    refine ⟨[], ?_, .nil e he, .nil e, (fun _ h => nomatch h), fun _ h => nomatch h⟩
    show [c + e - c] = [e]
    rw [Int.add_comm c e, Int.add_sub_cancel]
  | d :: ds, c, e, h0, h1, he => by
    obtain ⟨e', he', hle, s1, s2, s3, s4, s5⟩ := more_step (d := d) h0 h1 he
    have r := step_range (cap := cap) (c := c) (d := d) (by omega)
    obtain ⟨xs, q1, q2, q3, q4, q5⟩ := more_run ds (stepC cap c d) e' r.1 s5 he'
    refine ⟨e' :: xs, ?_, .cons e e' _ he hle q2, ?_, ?_, ?_⟩
    · show (c + e - c) :: apart (inC cap (stepC cap c d) ds) (inC cap (stepC cap (c + e) d) ds) = _
      rw [s1, q1, Int.add_comm c e, Int.add_sub_cancel]
    · show Ends _ ((stepS cap (c + e) d - stepS cap c d - (stepL (c + e) d - stepL c d)) :: List.zipWith (fun x y => x - y) (apart (runS cap (stepC cap c d) ds) (runS cap (stepC cap (c + e) d) ds)) (apart (runL cap (stepC cap c d) ds) (runL cap (stepC cap (c + e) d) ds)))
      rw [s1, s4]
      exact .cons e e' xs _ q3
    · intro z hz
      rcases List.mem_cons.mp (show z ∈ (stepS cap (c + e) d - stepS cap c d) :: apart (runS cap (stepC cap c d) ds) (runS cap (stepC cap (c + e) d) ds) from hz) with rfl | hz
      · exact s2
      · rw [s1] at hz
        exact q4 z hz
    · intro z hz
      rcases List.mem_cons.mp (show z ∈ (stepL (c + e) d - stepL c d) :: apart (runL cap (stepC cap c d) ds) (runL cap (stepC cap (c + e) d) ds) from hz) with rfl | hz
      · exact s3
      · rw [s1] at hz
        exact q5 z hz
theorem Falls.bit {e : Int} {xs : List Int} (h : Falls e xs) : e = 0 ∨ e = 1 := by cases h <;> assumption
theorem Falls.head {e : Int} {xs : List Int} (h : Falls e xs) : ∃ ys, xs = e :: ys := by
  cases h with
  | nil => exact ⟨[], rfl⟩
  | cons e' ys => exact ⟨_, rfl⟩
theorem Falls.le {e : Int} {xs : List Int} (h : Falls e xs) : ∀ z ∈ xs, 0 ≤ z ∧ z ≤ e := by
  induction h with
  | nil e he => intro z hz; rw [List.mem_singleton.mp hz]; omega
  | cons e e' xs he hle h ih =>
    intro z hz
    rcases List.mem_cons.mp hz with rfl | hz
    · omega
    · have := ih z hz
      omega
theorem Falls.pw {e : Int} {xs : List Int} (h : Falls e xs) : xs.Pairwise (· ≥ ·) := by
  induction h with
  | nil e he => exact List.pairwise_singleton _ _
  | cons e e' xs he hle h ih =>
    refine List.pairwise_cons.mpr ⟨fun z hz => ?_, ih⟩
    have := h.le z hz
    omega
theorem Falls.nought {xs : List Int} (h : Falls 0 xs) : xs.sum = 0 := by
  generalize he : (0 : Int) = e at h
  induction h with
  | nil e h => rw [← he]; rfl
  | cons e e' xs h hle h2 ih =>
    have b := h2.bit
    rw [List.sum_cons]
    have z1 : e' = 0 := by omega
    have z2 := ih z1.symm
    omega
theorem Falls.sum_ge {e : Int} {xs : List Int} (h : Falls e xs) : e ≤ xs.sum := by
  obtain ⟨ys, rfl⟩ := h.head
  have p : ∀ l : List Int, (∀ z ∈ l, 0 ≤ z) → 0 ≤ l.sum := fun l => by
    induction l with
    | nil => intro _; exact Int.le_refl 0
    | cons a l ih =>
      intro hl
      have h1 := hl a List.mem_cons_self
      have h2 := ih fun z hz => hl z (List.mem_cons_of_mem _ hz)
      rw [List.sum_cons]
      omega
  have := p ys fun z hz => (h.le z (List.mem_cons_of_mem _ hz)).1
  rw [List.sum_cons]
  omega
theorem Falls.last {e : Int} {xs : List Int} (h : Falls e xs) : ∃ ys z, xs = ys ++ [z] ∧ 0 ≤ z := by
  induction h with
  | nil e he => exact ⟨[], e, rfl, by omega⟩
  | cons e e' xs he hle h ih =>
    obtain ⟨ys, z, rfl, hz⟩ := ih
    exact ⟨e :: ys, z, rfl, hz⟩
/-- where the ones end is told by their number -/
theorem ends_at {e : Int} {xs os : List Int} (h : Falls e xs) (o : Ends xs os) : ∀ (ys : List Int) (z : Int), xs = ys ++ [z] → ∀ (k : Nat) (v : Int), os[k]? = some v → v = if ((k : Int) = xs.sum - 1 ∧ z = 0) then 1 else 0 := by
  induction h generalizing os with
  | nil e he =>
    intro ys z hx k v hk
    cases o
    simp at hk
  | cons e e' xs he hle h ih =>
    intro ys z hx k v hk
    cases o with
    | nil => cases h
    | cons _ _ ys2 os2 o2 =>
      cases ys with
      | nil => simp at hx
      | cons y ys =>
        rw [List.cons_append] at hx
        have hx2 := (List.cons.inj hx).2
        obtain ⟨y3, q3⟩ := h.head
        have q4 : e' = _ := (List.cons.inj q3).1.symm
        subst q4
        have b2 := h.bit
        have sg := h.sum_ge
        have sn : e' = 0 → (e' :: ys2).sum = 0 := fun z0 => by
          subst z0
          exact h.nought
        cases k with
        | zero =>
          have ev : e - e' = v := Option.some.inj hk
          have zb : 0 ≤ z ∧ z ≤ e' := h.le z (by rw [hx2]; simp)
          rw [List.sum_cons]
          split <;> omega
        | succ k =>
          have r := ih o2 ys z hx2 k v hk
          have hs : (e :: e' :: ys2).sum = e + (e' :: ys2).sum := List.sum_cons
          rw [r, hs]
          have kn := Int.natCast_nonneg k
          split <;> split <;> omega
/-- one unit more of cap -/
theorem cap_step {cap c e d : Int} (h0 : 0 ≤ c) (h1 : c ≤ cap) (he : e = 0 ∨ e = 1) :
    ∃ e', (e' = 0 ∨ e' = 1) ∧ stepC (cap + 1) (c + e) d = stepC cap c d + e' ∧ stepS (cap + 1) (c + e) d ≤ stepS cap c d ∧ stepL (c + e) d ≤ stepL c d := by
  have a := step_cases (cap := cap) (c := c) (d := d) (by omega)
  have b := step_cases (cap := cap + 1) (c := c + e) (d := d) (by omega)
  refine ⟨stepC (cap + 1) (c + e) d - stepC cap c d, ?_⟩
  generalize stepC cap c d = a1 at *
  generalize stepS cap c d = a2 at *
  generalize stepL c d = a3 at *
  generalize stepC (cap + 1) (c + e) d = b1 at *
  generalize stepS (cap + 1) (c + e) d = b2 at *
  generalize stepL (c + e) d = b3 at *
  rcases a with a | a | a <;> rcases b with b | b | b <;> refine ⟨?_, ?_, ?_, ?_⟩ <;> omega
theorem cap_run {cap : Int} : ∀ (ds : List Int) (c e : Int), 0 ≤ c → c ≤ cap → (e = 0 ∨ e = 1) →
    (∀ z ∈ apart (inC cap c ds) (inC (cap + 1) (c + e) ds), z = 0 ∨ z = 1) ∧ (runS (cap + 1) (c + e) ds).sum ≤ (runS cap c ds).sum ∧ (runL (cap + 1) (c + e) ds).sum ≤ (runL cap c ds).sum
  | [], c, e, h0, h1, he => by
    refine ⟨fun z hz => ?_, Int.le_refl _, Int.le_refl _⟩
    have : z = c + e - c := List.mem_singleton.mp hz
    omega
  | d :: ds, c, e, h0, h1, he => by
    obtain ⟨e', he', s1, s2, s3⟩ := cap_step (d := d) h0 h1 he
    have r := step_range (cap := cap) (c := c) (d := d) (by omega)
    obtain ⟨q1, q2, q3⟩ := cap_run ds (stepC cap c d) e' r.1 r.2 he'
    refine ⟨fun z hz => ?_, ?_, ?_⟩
    · rcases List.mem_cons.mp (show z ∈ (c + e - c) :: apart (inC cap (stepC cap c d) ds) (inC (cap + 1) (stepC (cap + 1) (c + e) d) ds) from hz) with rfl | hz
      · omega
      · rw [s1] at hz
        exact q1 z hz
    · show stepS (cap + 1) (c + e) d + (runS (cap + 1) (stepC (cap + 1) (c + e) d) ds).sum ≤ stepS cap c d + (runS cap (stepC cap c d) ds).sum
      rw [s1]
      omega
    · show stepL (c + e) d + (runL (cap + 1) (stepC (cap + 1) (c + e) d) ds).sum ≤ stepL c d + (runL cap (stepC cap c d) ds).sum
      rw [s1]
      omega
/-- a greater start and a greater cap never hold less -/
theorem mono_step {cap cap2 c c2 d : Int} (h0 : 0 ≤ c) (h1 : c ≤ c2) (h2 : cap ≤ cap2) (hc : 0 ≤ cap) : stepC cap c d ≤ stepC cap2 c2 d := by
  have a := step_cases (cap := cap) (c := c) (d := d) hc
  have b := step_cases (cap := cap2) (c := c2) (d := d) (by omega)
  generalize stepC cap c d = a1 at *
  generalize stepC cap2 c2 d = b1 at *
  generalize stepS cap c d = a2 at *
  generalize stepS cap2 c2 d = b2 at *
  rcases a with a | a | a <;> rcases b with b | b | b <;> omega
theorem mono_run {cap cap2 : Int} (h2 : cap ≤ cap2) (hc : 0 ≤ cap) : ∀ (ds : List Int) (c c2 : Int), 0 ≤ c → c ≤ c2 → ∀ z ∈ apart (inC cap c ds) (inC cap2 c2 ds), 0 ≤ z
  | [], c, c2, h0, h1, z, hz => by
    have : z = c2 - c := List.mem_singleton.mp hz
    omega
  | d :: ds, c, c2, h0, h1, z, hz => by
    rcases List.mem_cons.mp (show z ∈ (c2 - c) :: apart (inC cap (stepC cap c d) ds) (inC cap2 (stepC cap2 c2 d) ds) from hz) with rfl | hz
    · omega
    · exact mono_run h2 hc ds _ _ (step_range (cap := cap) (c := c) (d := d) hc).1 (mono_step h0 h1 h2 hc) z hz
theorem at2 {b : Int} {x y : Int} (h0 : 0 ≤ b) (h1 : b < 2) : ∃ z, (z = x ∨ z = y) ∧ atI ([V.int x, V.int y]) b = some (.int z) := by
  obtain ⟨z, hz, e⟩ := at3 (xs := [x, y]) h0 (by show b < (2 : Int); exact h1)
  exact ⟨z, by simpa using hz, e⟩
theorem mapAt {xs : List Int} {k : Nat} {z : Int} (h : xs[k]? = some z) : atI (xs.map V.int) (k : Int) = some (.int z) := atI_nat (by rw [List.getElem?_map, h]; rfl)
theorem inC_len (cap c : Int) (ds : List Int) : (inC cap c ds).length = ds.length + 1 := congrArg (· + 1) (runC_len c ds)
def ap (xs ys : List Int) (k : Nat) : Int := ys.getD k 0 - xs.getD k 0
theorem ap_map : ∀ {xs ys : List Int}, xs.length = ys.length → (List.range xs.length).map (ap xs ys) = apart xs ys
  | [], [], _ => rfl
  | x :: xs, [], h => by simp at h
  | [], y :: ys, h => by simp at h
  | x :: xs, y :: ys, h => by
    have i := ap_map (xs := xs) (ys := ys) (by simpa using h)
    rw [List.length_cons, List.range_succ_eq_map, List.map_cons, List.map_map]
    show (y - x) :: _ = (y - x) :: apart xs ys
    rw [← i]
    rfl
theorem apart_len {xs ys : List Int} (h : xs.length = ys.length) : (apart xs ys).length = xs.length := by rw [← ap_map h, List.length_map, List.length_range]
abbrev s__law_apart : Stmt := topS 20
theorem sc__law_apart : FnScope ["one", "other", "k"] ["one", "other"] (defScope s__law_apart) := ⟨rfl, rfl, rfl, by decide +kernel, rfl, by decide +kernel, by decide +kernel⟩
abbrev s__law_starts_right : Stmt := topS 21
theorem sc__law_starts_right : FnScope ["flow", "brim", "here", "low", "high", "inside", "over", "short", "due", "k"] ["flow", "brim", "here"] (defScope s__law_starts_right) := ⟨rfl, rfl, rfl, by decide +kernel, rfl, by decide +kernel, by decide +kernel⟩
abbrev s__law_caps_right : Stmt := topS 22
theorem sc__law_caps_right : FnScope ["flow", "brim", "low", "high", "inside", "one"] ["flow", "brim"] (defScope s__law_caps_right) := ⟨rfl, rfl, rfl, by decide +kernel, rfl, by decide +kernel, by decide +kernel⟩
abbrev s_law : Stmt := topS 23
theorem sc_law : FnScope ["script", "k", "cask", "flow", "brim", "here", "more", "wide", "rows", "one", "other"] ["script"] (defScope s_law) := ⟨rfl, rfl, rfl, by decide +kernel, rfl, by decide +kernel, by decide +kernel⟩
section
variable {P : Program} {w : World} {K : PySem.W.Frag} {mg : Str → Option Value} {base : Heap}
def spApart : Sp := fun vs H Q _ => ∃ (a b : Addr) (xs ys : List Int), vs = [.ref a, .ref b] ∧ H a = some (.lst (xs.map V.int)) ∧ H b = some (.lst (ys.map V.int)) ∧ xs.length = ys.length ∧ xs.length ≤ 2000 ∧
  ∀ p H', Ex [] H H' → H p = none → H' p = some (.lst ((apart xs ys).map V.int)) → Q (.ref p) H'
theorem ok__law_apart (d : Df K mg "_law_apart" s__law_apart ["one", "other"]) (B : Blt mg) : FnOk P w K mg base CX0 1 d.f d.fd ["one", "other"] spApart := by
  refine d.F.ok sc__law_apart (fun vs H Q E h => ?_) (fun cdv A outer s H vs Q E hr h => ?_)
  · obtain ⟨a, b, xs, ys, rfl, _⟩ := h
    rfl
  · obtain ⟨a, b, xs, ys, rfl, ha, hb, hxy, hlen, q⟩ := h
    refine ⟨_, (pss_one (ps_ret (pe_lc (own := [("k", 2)]) rfl sc__law_apart.nd (pi_range1 (by rfl) B.range (pa_cons (pe_callB call_len_seq (by rfl) B.len PySem.boot_len (pa_cons (pv 0) pa_nil)) pa_nil)) (blkOk_by (N := ["one", "other", "k"]) (sc := defScope s__law_apart) (by decide +kernel)) (fun _ _ _ _ _ => (pg_name (i := 2) sc__law_apart.nd rfl (Or.inl rfl))) (fun _ _ _ _ _ => pts_nil) (fun _ _ _ _ _ => (pe_op op_sub (pe_ix (r := rIxL K) ix_list (pv 1) (pv 2) (fun _ _ => rfl)) (pe_ix (r := rIxL K) ix_list (pv 0) (pv 2) (fun _ _ => rfl))))))), ?_⟩
    refine ⟨_, rfl, a, _, rfl, .inl (sq ha), _, rfl, by omega, by rw [List.length_map]; omega, fun D hD => lc_rng (lo := 0) (n := _) (fun k => V.int (ap xs ys k)) hD ?_ (fun i H4 R S hi e4 nD hR => ?_) (fun H4 e4 hD4 => ?_)⟩
    · rw [Int.toNat_natCast, List.length_map]
      omega
    · rw [Int.toNat_natCast, List.length_map] at hi
      have hx : xs[i]? = some (xs.getD i 0) := by rw [List.getD_eq_getElem?_getD, List.getElem?_eq_getElem hi]; rfl
      have hy : ys[i]? = some (ys.getD i 0) := by rw [List.getD_eq_getElem?_getD, List.getElem?_eq_getElem (by omega : i < ys.length)]; rfl
      have i0 : (0 : Int) + (i : Nat) = (i : Nat) := Int.zero_add _
      rw [i0]
      refine ⟨rfl, _, rfl, _, rfl, b, _, _, _, rfl, rfl, sq (e4.lst hb), mapAt hy, _, rfl, _, rfl, a, _, _, _, rfl, rfl, sq (e4.lst ha), mapAt hx, _, _, rfl, rfl, hR H4 (Ex.refl _)⟩
    · refine q D H4 e4 hD ?_
      rw [hD4, Int.toNat_natCast, List.length_map, ← ap_map hxy, List.map_map]
      rfl
end

section
variable {P : Program} {w : World} {K : PySem.W.Frag} {mg : Str → Option Value} {base : Heap}
def spStarts (T : Addr) : Sp := fun vs H Q _ => ∃ (l : Addr) (ds : List Int) (cap c : Int), vs = [.ref l, .int cap, .int c] ∧ 0 ≤ c ∧ c < cap ∧ ds.length ≤ 1000 ∧ H l = some (.lst (ds.map V.int)) ∧ GxR.TabG H T ∧ ∀ H', Ex [] H H' → Q (.bl true) H'
theorem ok__law_starts_right {T : Addr} (d : Df K mg "_law_starts_right" s__law_starts_right ["flow", "brim", "here"]) (d__law_apart : Df K mg "_law_apart" s__law_apart ["one", "other"]) (d_run : Df K mg "run" s_run ["days", "cap", "start"]) (B : Blt mg)
    (G1 : FnOk P w K mg base CX0 1 d__law_apart.f d__law_apart.fd ["one", "other"] spApart) (G_run : FnOk P w K mg base CX0 5 d_run.f d_run.fd ["days", "cap", "start"] (spRun T)) : FnOk P w K mg base CX0 6 d.f d.fd ["flow", "brim", "here"] (spStarts T) := by
  have G__law_apart := G1.mono (show 1 ≤ 5 by decide)
  refine d.F.ok sc__law_starts_right (fun vs H Q E h => ?_) (fun cdv A outer s H vs Q E hr h => ?_)
  · obtain ⟨l, ds, cap, c, rfl, _⟩ := h
    rfl
  · obtain ⟨l, ds, cap, c, rfl, h0, h1, hlen, hl, ht, q⟩ := h
    refine ⟨_, (pss_cons (ps_par (i := 3) (j := 4) (by rfl) sc__law_starts_right.nd rfl rfl (by decide) rfl rfl (pa_cons (pe_d d_run G_run hr (pa_cons (pv 0) (pa_cons (pv 1) (pa_cons (pv 2) pa_nil)))) (pa_cons (pe_d d_run G_run hr (pa_cons (pv 0) (pa_cons (pv 1) (pa_cons (pe_op op_add (pv 2) pe_int) pa_nil)))) pa_nil)) (by rfl))
      (pss_cons (ps_set (i := 5) sc__law_starts_right.nd rfl (Or.inr rfl) (pe_d d__law_apart G__law_apart hr (pa_cons (pe_ix ix_tup (pv 3) pe_int (fun _ _ => rfl)) (pa_cons (pe_ix ix_tup (pv 4) pe_int (fun _ _ => rfl)) pa_nil))))
      (pss_cons (ps_if (PW.pt (pw_or (pt_cmpR (op_neD hr.units) (pv 5) (pe_callBK (cr_sortedRev (b := true)) (by rfl) B.sorted (by decide +kernel) (pa_cons (pv 5) pa_nil) (pk_cons pe_bl pk_nil)) (nomark _)) (pw_or (pt_cmpR op_ne (pe_ix ix_list (pv 5) pe_int (fun _ _ => rfl)) pe_int (nomark _)) (pw_or1 (pt_cmpR op_lt (pe_ix (r := rIxL K) ix_list (pv 5) (pe_un un_neg pe_int) (fun _ _ => rfl)) pe_int (nomark _))))))
        (pss_one (ps_ret pe_bl))
        pss_nil)
      (pss_cons (ps_asg (pe_tup (pa_cons (pe_d d__law_apart G__law_apart hr (pa_cons (pe_ix ix_tup (pv 3) pe_int (fun _ _ => rfl)) (pa_cons (pe_ix ix_tup (pv 4) pe_int (fun _ _ => rfl)) pa_nil))) (pa_cons (pe_d d__law_apart G__law_apart hr (pa_cons (pe_ix ix_tup (pv 3) pe_int (fun _ _ => rfl)) (pa_cons (pe_ix ix_tup (pv 4) pe_int (fun _ _ => rfl)) pa_nil))) pa_nil))) (pg_tup (by rfl) (pgs_cons (pg_name (i := 6) sc__law_starts_right.nd rfl (Or.inr rfl)) (pgs_cons (pg_name (i := 7) sc__law_starts_right.nd rfl (Or.inr rfl)) pgs_nil))))
      (pss_cons (ps_setLc (i := 8) (own := [("k", 9)]) rfl sc__law_starts_right.nd rfl rfl (sw_true rfl rfl rfl (by decide +kernel)) (pi_range1 (by rfl) B.range (pa_cons (pe_callB call_len_seq (by rfl) B.len PySem.boot_len (pa_cons (pv 0) pa_nil)) pa_nil)) (blkOk_by (N := ["flow", "brim", "here", "low", "high", "inside", "over", "short", "due", "k"]) (sc := defScope s__law_starts_right) (by decide +kernel)) (fun _ _ _ _ _ => (pg_name (i := 9) sc__law_starts_right.nd rfl (Or.inl rfl))) (fun _ _ _ _ _ => pts_nil) (fun _ _ _ _ _ => (pe_callTy call_int1 (by rfl) B.int (by decide +kernel) (pa_cons (pe_and (pe_cmpR op_eq (pv 9) (pe_op op_sub (pe_callB (r := rSum K) (cr_sum rfl) (by rfl) B.sum (by decide +kernel) (pa_cons (pv 5) pa_nil)) pe_int) (nomark _)) (pe_one (pe_cmpR op_eq (pe_ix (r := rIxL K) ix_list (pv 5) (pe_un un_neg pe_int) (fun _ _ => rfl)) pe_int (nomark _)))) pa_nil))))
      (pss_cons (ps_if (pt_cmpR (op_neD hr.units) (pe_lc (own := [("k", 9)]) rfl sc__law_starts_right.nd (pi_range1 (by rfl) B.range (pa_cons (pe_callB call_len_seq (by rfl) B.len PySem.boot_len (pa_cons (pv 0) pa_nil)) pa_nil)) (blkOk_by (N := ["flow", "brim", "here", "low", "high", "inside", "over", "short", "due", "k"]) (sc := defScope s__law_starts_right) (by decide +kernel)) (fun _ _ _ _ _ => (pg_name (i := 9) sc__law_starts_right.nd rfl (Or.inl rfl))) (fun _ _ _ _ _ => pts_nil) (fun _ _ _ _ _ => (pe_op op_sub (pe_ix (r := rIxL K) ix_list (pv 6) (pv 9) (fun _ _ => rfl)) (pe_ix (r := rIxL K) ix_list (pv 7) (pv 9) (fun _ _ => rfl))))) (pv 8) (nomark _))
        (pss_one (ps_ret pe_bl))
        pss_nil)
      (pss_one (ps_ret (pe_and (pe_cmpR op_ge (pe_callB (cr_min rfl) (by rfl) B.min (by decide +kernel) (pa_cons (pe_op op_cat (pv 6) (pe_lst (pa_cons pe_int pa_nil))) pa_nil)) pe_int (nomark _)) (pe_one (pe_cmpR op_le (pe_callB (cr_max rfl) (by rfl) B.max (by decide +kernel) (pa_cons (pe_op op_cat (pv 7) (pe_lst (pa_cons pe_int pa_nil))) pa_nil)) pe_int (nomark _)))))))))))), ?_⟩
    refine ⟨_, rfl, _, rfl, _, rfl, l, ds, cap, c, rfl, .inl hl, by omega, h0, by omega, ht, fun H2 t2 ra rb re e2 tb2 nt2 nra nrb nre nab nae nbe ht2 hra hrb hre => ?_⟩
    refine ⟨_, rfl, _, rfl, _, rfl, _, _, rfl, rfl, l, ds, cap, c + 1, rfl, .inl (e2.lst hl), by omega, by omega, by omega, tb2, fun H3 t3 sa sb se e3 tb3 nt3 nsa nsb nse msab msae msbe ht3 hsa hsb hse => ?_⟩
    obtain ⟨xs, m1, m2, m3, m4, m5⟩ := more_run (cap := cap) ds c 1 h0 (by omega) (.inr rfl)
    have l1 : (inC cap c ds).length = (inC cap (c + 1) ds).length := by rw [inC_len, inC_len]
    have l2 : (runS cap c ds).length = (runS cap (c + 1) ds).length := by rw [runS_len, runS_len]
    have l3 : (runL cap c ds).length = (runL cap (c + 1) ds).length := by rw [runL_len, runL_len]
    have e13 := e2.trans e3
    refine ⟨_, _, rfl, ?_⟩
    -- inside
    refine ⟨_, rfl, t2, _, _, _, rfl, rfl, sqt (e3.tup ht2), atI_nat (j := 0) rfl, _, rfl, t3, _, _, _, rfl, rfl, sqt ht3, atI_nat (j := 0) rfl, ra, sa, _, _, rfl, e3.lst hra, hsa, l1, by rw [inC_len]; omega, fun pi H4 e4 npi hpi => ?_⟩
    rw [m1] at hpi
    obtain ⟨ys, z, hyz, hz0⟩ := m2.last
    -- inside != sorted(inside, reverse=True)
    refine ⟨_, rfl, _, rfl, pi, _, rfl, rfl, sq hpi, fun ns' ps perm ord hps => ?_⟩
    have es : ns' = 1 :: xs := List.Perm.eq_of_pairwise (le := (· ≥ ·)) (fun a b _ _ h1 h2 => Int.le_antisymm h2 h1) ord m2.pw perm
    subst es
    have a5 := Ex.new (C := []) (o := .lst ((1 :: xs).map V.int)) hps
    have hpi5 := a5.lst hpi
    refine ⟨_, _, dp_ints hpi5, dp_ints upd_same, (sh_pdI _).shaped (by decide), (sh_pdI _).shaped (by decide), _, rfl, ?_⟩
    rw [(sh_pdI _).refl]
    refine iteF ?_
    have zl : atI ((1 :: xs).map V.int) (-1) = some (.int z) := by
      rw [hyz, List.map_append]
      exact atI_last _ _
    -- inside[0] != 1 or inside[-1] < 0
    refine ⟨_, rfl, pi, _, _, _, rfl, rfl, sq hpi5, atI_nat (j := 0) rfl, rfl, _, rfl, ?_⟩
    refine iteNS rfl ?_
    refine ⟨_, rfl, 1, rfl, pi, _, -1, _, rfl, rfl, sq hpi5, zl, _, _, rfl, rfl, _, rfl, ?_⟩
    refine ite2 (fun y => absurd (of_decide_eq_true y) (by omega)) (fun _ => ?_)
    -- over, short
    have e45 := e4.trans a5
    generalize upd H4 ps (.lst ((1 :: xs).map V.int)) = H5 at hpi5 e45
    refine ⟨_, rfl, t2, _, _, _, rfl, rfl, sqt (e45.tup (e3.tup ht2)), atI_nat (j := 1) rfl, _, rfl, t3, _, _, _, rfl, rfl, sqt (e45.tup ht3), atI_nat (j := 1) rfl, rb, sb, _, _, rfl, e45.lst (e3.lst hrb), e45.lst hsb, l2, by rw [runS_len]; omega, fun po H6 e6 npo hpo => ?_⟩
    have e46 := e45.trans e6
    refine ⟨_, rfl, t2, _, _, _, rfl, rfl, sqt (e46.tup (e3.tup ht2)), atI_nat (j := 2) rfl, _, rfl, t3, _, _, _, rfl, rfl, sqt (e46.tup ht3), atI_nat (j := 2) rfl, re, se, _, _, rfl, e46.lst (e3.lst hre), e46.lst hse, l3, by rw [runL_len]; omega, fun pe H7 e7 npe hpe => ?_⟩
    refine ⟨(by show 2 ≤ sizeLine; decide), fun u hu => ?_⟩
    refine ⟨u, _, rfl, sqt upd_same, rfl, _, _, rfl, _, _, rfl, rfl, ?_⟩
    have a8 := Ex.new (C := []) (o := .tup [V.ref po, V.ref pe]) hu
    have hpo8 := a8.lst (e7.lst hpo)
    have hpe8 := a8.lst hpe
    have hpi8 := a8.lst (e7.lst (e6.lst hpi5))
    have e18 := e13.trans (e46.trans (e7.trans a8))
    have hl8 := e18.lst hl
    generalize upd H7 u (.tup [V.ref po, V.ref pe]) = H8 at hpo8 hpe8 hpi8 e18 hl8
    generalize hov : apart (runS cap c ds) (runS cap (c + 1) ds) = ov at *
    generalize hsh : apart (runL cap c ds) (runL cap (c + 1) ds) = sh at *
    have lov : ov.length = ds.length := by rw [← hov, apart_len l2, runS_len]
    have lsh : sh.length = ds.length := by rw [← hsh, apart_len l3, runL_len]
    -- due
    refine ⟨_, rfl, l, _, rfl, .inl (sq hl8), _, rfl, by omega, by rw [List.length_map]; omega, fun D hD => lc_rng (lo := 0) (n := _) (fun k => V.int (if ((k : Int) = (1 :: xs).sum - 1 ∧ z = 0) then 1 else 0)) hD ?_ (fun i H4 R S hi e4 nD hR => ?_) (fun H9 e9 hD9 => ?_)⟩
    · rw [Int.toNat_natCast, List.length_map]
      omega
    · have i0 : (0 : Int) + (i : Nat) = (i : Nat) := Int.zero_add _
      rw [i0]
      have r := hR H4 (Ex.refl _)
      refine ⟨rfl, _, rfl, _, rfl, pi, _, rfl, sq (e4.lst hpi8), _, _, rfl, rfl, rfl, _, rfl, ?_⟩
      refine ite2 (fun y => ?_) (fun y => ?_)
      · have y2 : (i : Int) = (1 :: xs).sum - 1 := V.int.inj (of_decide_eq_true y)
        refine ⟨_, rfl, 1, rfl, pi, _, -1, _, rfl, rfl, sq (e4.lst hpi8), zl, rfl, .inr ⟨_, rfl, ?_⟩⟩
        by_cases z0 : z = 0
        · rw [if_pos ⟨y2, z0⟩] at r
          rw [if_pos (decide_eq_true (congrArg V.int z0))]
          exact r
        · rw [if_neg (fun h => z0 h.2)] at r
          rw [if_neg (fun h => z0 (V.int.inj (of_decide_eq_true h)))]
          exact r
      · refine .inr ⟨_, rfl, ?_⟩
        rw [if_neg (fun h => y (decide_eq_true (congrArg V.int h.1)))] at r
        exact r
    · rw [Int.toNat_natCast, List.length_map] at hD9
      have e19 := e18.trans e9
      have hl9 := e9.lst hl8
      have hpo9 := e9.lst hpo8
      have hpe9 := e9.lst hpe8
      refine ⟨_, rfl, l, _, rfl, .inl (sq hl9), _, rfl, by omega, by rw [List.length_map]; omega, fun D2 hD2 => lc_rng (lo := 0) (n := _) (fun k => V.int (ov.getD k 0 - sh.getD k 0)) hD2 ?_ (fun i H4 R S hi e4 nD hR => ?_) (fun H10 e10 hD10 => ?_)⟩
      · rw [Int.toNat_natCast, List.length_map]
        omega
      · rw [Int.toNat_natCast, List.length_map] at hi
        have hx : ov[i]? = some (ov.getD i 0) := by rw [List.getD_eq_getElem?_getD, List.getElem?_eq_getElem (by omega)]; rfl
        have hy : sh[i]? = some (sh.getD i 0) := by rw [List.getD_eq_getElem?_getD, List.getElem?_eq_getElem (by omega)]; rfl
        have i0 : (0 : Int) + (i : Nat) = (i : Nat) := Int.zero_add _
        rw [i0]
        exact ⟨rfl, _, rfl, _, rfl, po, _, _, _, rfl, rfl, sq (e4.lst hpo9), mapAt hx, _, rfl, _, rfl, pe, _, _, _, rfl, rfl, sq (e4.lst hpe9), mapAt hy, _, _, rfl, rfl, hR H4 (Ex.refl _)⟩
      · rw [Int.toNat_natCast, List.length_map] at hD10
        have same : (List.range ds.length).map (fun k : Nat => ov.getD k 0 - sh.getD k 0) = (List.range ds.length).map (fun k : Nat => if ((k : Int) = (1 :: xs).sum - 1 ∧ z = 0) then (1 : Int) else 0) := by
          refine List.map_congr_left fun k hk => ?_
          have hk2 := List.mem_range.mp hk
          refine ends_at m2 m3 ys z hyz k _ ?_
          rw [List.getElem?_zipWith, List.getD_eq_getElem?_getD, List.getD_eq_getElem?_getD, List.getElem?_eq_getElem (by omega : k < ov.length), List.getElem?_eq_getElem (by omega : k < sh.length)]
          rfl
        have d10 : H10 D2 = some (.lst (((List.range ds.length).map (fun k : Nat => ov.getD k 0 - sh.getD k 0)).map V.int)) := by rw [hD10, List.map_map]; rfl
        have d9 : H10 D = some (.lst (((List.range ds.length).map (fun k : Nat => ov.getD k 0 - sh.getD k 0)).map V.int)) := by rw [same, e10.lst hD9, List.map_map]; rfl
        refine ⟨_, rfl, _, _, dp_ints d10, dp_ints d9, (sh_pdI _).shaped (by decide), (sh_pdI _).shaped (by decide), _, rfl, ?_⟩
        rw [(sh_pdI _).refl]
        refine iteF ?_
        have hpo10 := e10.lst hpo9
        have hpe10 := e10.lst hpe9
        have e110 := e19.trans e10
        -- min(over + [0]) >= 0 and max(short + [0]) <= 0
        refine ⟨_, rfl, (by show 1 ≤ sizeLine; decide), fun p1 h1 => ?_⟩
        have b1 := Ex.new (C := []) (o := .lst [V.int 0]) h1
        refine ⟨po, p1, _, _, rfl, rfl, b1.lst hpo10, upd_same, ?_, fun p2 h2 => ?_⟩
        · rw [List.length_map, lov]
          exact Nat.le_of_lt (Nat.lt_of_le_of_lt (by show _ + 1 ≤ 1001; omega) (by decide))
        have b2 := Ex.new (C := []) (o := .lst (ov.map V.int ++ [V.int 0])) h2
        refine ⟨p2, ov ++ [0], rfl, by rw [List.map_append]; exact sq upd_same, by rw [List.length_append]; exact Nat.lt_of_lt_of_le Nat.zero_lt_one (Nat.le_add_left _ _), fun m hm hmin => ?_⟩
        have m0 : 0 ≤ m := by
          rcases List.mem_append.mp hm with hm | hm
          · exact m4 m hm
          · rw [List.mem_singleton.mp hm]
            exact Int.le_refl 0
        refine ⟨_, _, rfl, rfl, _, rfl, ?_⟩
        refine ite2 (fun _ => ?_) (fun n => absurd (decide_eq_true (by omega)) n)
        have hpe12 := b2.lst (b1.lst hpe10)
        have e112 := e110.trans (b1.trans b2)
        generalize upd (upd H10 p1 (.lst [V.int 0])) p2 (.lst (ov.map V.int ++ [V.int 0])) = H12 at hpe12 e112
        refine ⟨_, rfl, (by show 1 ≤ sizeLine; decide), fun p3 h3 => ?_⟩
        have b3 := Ex.new (C := []) (o := .lst [V.int 0]) h3
        refine ⟨pe, p3, _, _, rfl, rfl, b3.lst hpe12, upd_same, ?_, fun p4 h4 => ?_⟩
        · rw [List.length_map, lsh]
          exact Nat.le_of_lt (Nat.lt_of_le_of_lt (by show _ + 1 ≤ 1001; omega) (by decide))
        have b4 := Ex.new (C := []) (o := .lst (sh.map V.int ++ [V.int 0])) h4
        refine ⟨p4, sh ++ [0], rfl, by rw [List.map_append]; exact sq upd_same, by rw [List.length_append]; exact Nat.lt_of_lt_of_le Nat.zero_lt_one (Nat.le_add_left _ _), fun m' hm' hmax => ?_⟩
        have m1' : m' ≤ 0 := by
          rcases List.mem_append.mp hm' with hm' | hm'
          · exact m5 m' hm'
          · rw [List.mem_singleton.mp hm']
            exact Int.le_refl 0
        refine ⟨_, _, rfl, rfl, ?_⟩
        show Q (V.bl (decide (m' ≤ 0))) _
        rw [decide_eq_true m1']
        exact q _ (e112.trans (b3.trans b4))
end
end Sp
end

section
set_option maxHeartbeats 4000000
namespace Sp
open PySem PySem.Spec PyProof.Rows L2

section
variable {P : Program} {w : World} {K : PySem.W.Frag} {mg : Str → Option Value} {base : Heap}
def spCaps (T : Addr) : Sp := fun vs H Q _ => ∃ (l : Addr) (ds : List Int) (cap : Int), vs = [.ref l, .int cap] ∧ 0 < cap ∧ ds.length ≤ 1000 ∧ H l = some (.lst (ds.map V.int)) ∧ GxR.TabG H T ∧ ∀ H', Ex [] H H' → Q (.bl true) H'
theorem ok__law_caps_right {T : Addr} (d : Df K mg "_law_caps_right" s__law_caps_right ["flow", "brim"]) (d__law_apart : Df K mg "_law_apart" s__law_apart ["one", "other"]) (d_run : Df K mg "run" s_run ["days", "cap", "start"]) (B : Blt mg)
    (G1 : FnOk P w K mg base CX0 1 d__law_apart.f d__law_apart.fd ["one", "other"] spApart) (G_run : FnOk P w K mg base CX0 5 d_run.f d_run.fd ["days", "cap", "start"] (spRun T)) : FnOk P w K mg base CX0 6 d.f d.fd ["flow", "brim"] (spCaps T) := by
  have G__law_apart := G1.mono (show 1 ≤ 5 by decide)
  refine d.F.ok sc__law_caps_right (fun vs H Q E h => ?_) (fun cdv A outer s H vs Q E hr h => ?_)
  · obtain ⟨l, ds, cap, rfl, _⟩ := h
    rfl
  · obtain ⟨l, ds, cap, rfl, h0, hlen, hl, ht, q⟩ := h
    refine ⟨_, (pss_cons (ps_par (i := 2) (j := 3) (by rfl) sc__law_caps_right.nd rfl rfl (by decide) rfl rfl (pa_cons (pe_d d_run G_run hr (pa_cons (pv 0) (pa_cons (pv 1) (pa_cons pe_int pa_nil)))) (pa_cons (pe_d d_run G_run hr (pa_cons (pv 0) (pa_cons (pe_op op_add (pv 1) pe_int) (pa_cons pe_int pa_nil)))) pa_nil)) (by rfl))
      (pss_cons (ps_set (i := 4) sc__law_caps_right.nd rfl (Or.inl rfl) (pe_d d__law_apart G__law_apart hr (pa_cons (pe_ix ix_tup (pv 2) pe_int (fun _ _ => rfl)) (pa_cons (pe_ix ix_tup (pv 3) pe_int (fun _ _ => rfl)) pa_nil))))
      (pss_cons (ps_if (pt_cmpR (op_neD hr.units) (pe_lc (own := [("one", 5)]) rfl sc__law_caps_right.nd (pi_list (pv 4)) (blkOk_by (N := ["flow", "brim", "low", "high", "inside", "one"]) (sc := defScope s__law_caps_right) (by decide +kernel)) (fun _ _ _ _ _ => (pg_name (i := 5) sc__law_caps_right.nd rfl (Or.inl rfl))) (fun _ _ _ _ _ => (pts_one (pt_cmpR (r := rIn K true) op_notIn_seq (pv 5) (pe_tup (pa_cons pe_int (pa_cons pe_int pa_nil))) (by rfl)))) (fun _ _ _ _ _ => (pv 5))) (pe_lst pa_nil) (nomark _))
        (pss_one (ps_ret pe_bl))
        pss_nil)
      (pss_one (ps_ret (pe_and (pe_cmpR op_le (pe_callB (cr_sum rfl) (by rfl) B.sum (by decide +kernel) (pa_cons (pe_ix ix_tup (pv 3) pe_int (fun _ _ => rfl)) pa_nil)) (pe_callB (cr_sum rfl) (by rfl) B.sum (by decide +kernel) (pa_cons (pe_ix ix_tup (pv 2) pe_int (fun _ _ => rfl)) pa_nil)) (nomark _)) (pe_one (pe_cmpR op_le (pe_callB (cr_sum rfl) (by rfl) B.sum (by decide +kernel) (pa_cons (pe_ix ix_tup (pv 3) pe_int (fun _ _ => rfl)) pa_nil)) (pe_callB (cr_sum rfl) (by rfl) B.sum (by decide +kernel) (pa_cons (pe_ix ix_tup (pv 2) pe_int (fun _ _ => rfl)) pa_nil)) (nomark _))))))))), ?_⟩
    refine ⟨_, rfl, _, rfl, l, ds, cap, 0, rfl, .inl hl, by omega, by omega, by omega, ht, fun H2 t2 ra rb re e2 tb2 nt2 nra nrb nre nab nae nbe ht2 hra hrb hre => ?_⟩
    refine ⟨_, rfl, _, rfl, _, _, rfl, rfl, l, ds, cap + 1, 0, rfl, .inl (e2.lst hl), by omega, by omega, by omega, tb2, fun H3 t3 sa sb se e3 tb3 nt3 nsa nsb nse msab msae msbe ht3 hsa hsb hse => ?_⟩
    obtain ⟨m1, m2, m3⟩ := cap_run (cap := cap) ds 0 0 (by omega) (by omega) (.inl rfl)
    rw [Int.add_zero] at m1 m2 m3
    have l1 : (inC cap 0 ds).length = (inC (cap + 1) 0 ds).length := by rw [inC_len, inC_len]
    have e13 := e2.trans e3
    refine ⟨_, _, rfl, ?_⟩
    -- inside
    refine ⟨_, rfl, t2, _, _, _, rfl, rfl, sqt (e3.tup ht2), atI_nat (j := 0) rfl, _, rfl, t3, _, _, _, rfl, rfl, sqt ht3, atI_nat (j := 0) rfl, ra, sa, _, _, rfl, e3.lst hra, hsa, l1, by rw [inC_len]; omega, fun pi H4 e4 npi hpi => ?_⟩
    have la := apart_len l1
    generalize apart (inC cap 0 ds) (inC (cap + 1) 0 ds) = xs at *
    rw [inC_len] at la
    refine ⟨_, rfl, pi, rfl, ⟨_, sq hpi⟩, fun D hD => lc_gen (K := K) (a := pi) (xs := xs.map V.int) (fun _ => false) (fun v => v) hD ?_ (sq hpi) (fun i y H5 R S hy e5 nD hR hS => ?_) (fun H5 e5 hD5 => ?_)⟩
    · rw [List.length_map]
      omega
    · obtain ⟨z, rfl, hz⟩ := map_at hy
      have z01 := m1 z (List.mem_of_getElem? hz)
      refine ⟨rfl, _, rfl, (by show 2 ≤ sizeLine; decide), fun u hu => ?_⟩
      refine ⟨u, _, rfl, .inr (sqt upd_same), rfl, rfl, ?_⟩
      have no : (!inV (V.int z) [V.int 0, V.int 1]) = false := by rcases z01 with rfl | rfl <;> rfl
      refine ⟨_, rfl, ?_⟩
      rw [if_pos rfl, no]
      exact iteF (hS rfl _ (Ex.new hu))
    · have none : ((xs.map V.int).filter fun _ => false).map (fun v => v) = [] := by rw [List.filter_eq_nil_iff.mpr (fun _ _ => Bool.noConfusion)]; rfl
      rw [none] at hD5
      refine ⟨(by show 0 ≤ sizeLine; decide), fun n hn => ?_⟩
      have a6 := Ex.new (C := []) (o := .lst []) hn
      refine ⟨_, _, dp_ints (ns := []) (a6.lst hD5), dp_ints (ns := []) upd_same, (sh_pdI _).shaped (by decide), (sh_pdI _).shaped (by decide), _, rfl, ?_⟩
      rw [(sh_pdI _).refl]
      refine iteF ?_
      have e36 := e4.trans (e5.trans a6)
      have ht3' := e36.tup ht3
      have ht2' := e36.tup (e3.tup ht2)
      refine ⟨_, rfl, t3, _, _, _, rfl, rfl, sqt ht3', atI_nat (j := 1) rfl, sb, _, rfl, sq (e36.lst hsb), _, rfl, t2, _, _, _, rfl, rfl, sqt ht2', atI_nat (j := 1) rfl, rb, _, rfl, sq (e36.lst (e3.lst hrb)), _, _, rfl, rfl, _, rfl, ?_⟩
      refine ite2 (fun _ => ?_) (fun n => absurd (decide_eq_true m2) n)
      refine ⟨_, rfl, t3, _, _, _, rfl, rfl, sqt ht3', atI_nat (j := 2) rfl, se, _, rfl, sq (e36.lst hse), _, rfl, t2, _, _, _, rfl, rfl, sqt ht2', atI_nat (j := 2) rfl, re, _, rfl, sq (e36.lst (e3.lst hre)), _, _, rfl, rfl, ?_⟩
      show Q (V.bl (decide (_ ≤ _))) _
      rw [decide_eq_true m3]
      exact q _ (e13.trans e36)
end
end Sp
end

section
set_option maxHeartbeats 4000000
namespace Sp
open PySem PySem.Spec PyProof.Rows L2

section
variable {P : Program} {w : World} {K : PySem.W.Frag} {mg : Str → Option Value} {base : Heap}
def spLaw (K : PySem.W.Frag) (T : Addr) : Sp := fun vs H Q _ => ∃ (a : Addr) (ns : List Int), vs = [.ref a] ∧ SqL K H a (ns.map V.int) ∧ ns.length ≤ 63 ∧ (∀ z ∈ ns, Builtin.Int.intBits z ≤ 1048576) ∧ GxR.TabG H T ∧ ∀ H', Q (.bl true) H'
theorem ok_law {T : Addr} (d : Df K mg "law" s_law ["script"]) (d__law_cask : Df K mg "_law_cask" s__law_cask ["script", "k"]) (d__law_tap : Df K mg "_law_tap" s__law_tap ["cask", "wide"]) (d__law_days : Df K mg "_law_days" s__law_days ["cask", "most", "wide"]) (d__law_cap : Df K mg "_law_cap" s__law_cap ["cask", "wide"])
    (d__law_apart : Df K mg "_law_apart" s__law_apart ["one", "other"]) (d__law_starts_right : Df K mg "_law_starts_right" s__law_starts_right ["flow", "brim", "here"]) (d__law_caps_right : Df K mg "_law_caps_right" s__law_caps_right ["flow", "brim"])
    (d_run : Df K mg "run" s_run ["days", "cap", "start"]) (B : Blt mg)
    (G1 : FnOk P w K mg base CX0 1 d__law_cask.f d__law_cask.fd ["script", "k"] (spCask K)) (G2 : FnOk P w K mg base CX0 1 d__law_tap.f d__law_tap.fd ["cask", "wide"] spTap) (G3 : FnOk P w K mg base CX0 2 d__law_days.f d__law_days.fd ["cask", "most", "wide"] spLawDays)
    (G4 : FnOk P w K mg base CX0 2 d__law_cap.f d__law_cap.fd ["cask", "wide"] spLawCap) (G5 : FnOk P w K mg base CX0 5 d_run.f d_run.fd ["days", "cap", "start"] (spRun T))
    (G6 : FnOk P w K mg base CX0 1 d__law_apart.f d__law_apart.fd ["one", "other"] spApart) (G__law_starts_right : FnOk P w K mg base CX0 6 d__law_starts_right.f d__law_starts_right.fd ["flow", "brim", "here"] (spStarts T)) (G__law_caps_right : FnOk P w K mg base CX0 6 d__law_caps_right.f d__law_caps_right.fd ["flow", "brim"] (spCaps T)) :
    FnOk P w K mg base CX0 7 d.f d.fd ["script"] (spLaw K T) := by
  have G__law_cask := G1.mono (show 1 ≤ 6 by decide)
  have G__law_tap := G2.mono (show 1 ≤ 6 by decide)
  have G__law_days := G3.mono (show 2 ≤ 6 by decide)
  have G__law_cap := G4.mono (show 2 ≤ 6 by decide)
  have G_run := G5.mono (show 5 ≤ 6 by decide)
  have G__law_apart := G6.mono (show 1 ≤ 6 by decide)
  refine d.F.ok sc_law (fun vs H Q E h => ?_) (fun cdv A outer s H vs Q E hr h => ?_)
  · obtain ⟨a, ns, rfl, _⟩ := h
    rfl
  · obtain ⟨a, ns, rfl, hS, hlen, _, ht, q⟩ := h
    refine ⟨_, (pss_cons (ps_for PassesOwn.never rfl (pi_range1 (by rfl) B.range (pa_cons (pe_callB (call_max2 rfl) (by rfl) B.max (by decide +kernel) (pa_cons pe_int (pa_cons (pe_callB (call_min2 rfl) (by rfl) B.min (by decide +kernel) (pa_cons pe_int (pa_cons (pe_callB call_len_seq (by rfl) B.len PySem.boot_len (pa_cons (pv 0) pa_nil)) pa_nil))) pa_nil))) pa_nil)) (pg_name (i := 1) sc_law.nd rfl (Or.inl rfl))
        (pss_cons (ps_set (i := 2) sc_law.nd rfl (Or.inl rfl) (pe_d d__law_cask G__law_cask hr (pa_cons (pv 0) (pa_cons (pv 1) pa_nil))))
          (pss_cons (ps_set (i := 3) sc_law.nd rfl (Or.inl rfl) (pe_d d__law_days G__law_days hr (pa_cons (pv 2) (pa_cons (pe_ix ix_list (pe_lst (pa_cons pe_int (pa_cons pe_int pa_nil))) (pe_d d__law_tap G__law_tap hr (pa_cons (pv 2) (pa_cons pe_int pa_nil))) (fun _ _ => rfl)) (pa_cons (pe_op op_powC pe_int pe_int) pa_nil)))))
          (pss_cons (ps_set (i := 4) sc_law.nd rfl (Or.inl rfl) (pe_op op_add pe_int (pe_d d__law_cap G__law_cap hr (pa_cons (pv 2) (pa_cons (pe_op op_powC pe_int pe_int) pa_nil)))))
          (pss_cons (ps_set (i := 5) sc_law.nd rfl (Or.inl rfl) (pe_d d__law_tap G__law_tap hr (pa_cons (pv 2) (pa_cons (pv 4) pa_nil))))
          (pss_cons (ps_if (PW.pt (pw_or (pt_not (pt_val (pe_d d__law_starts_right G__law_starts_right hr (pa_cons (pv 3) (pa_cons (pv 4) (pa_cons (pv 5) pa_nil)))))) (pw_or1 (pt_not (pt_val (pe_d d__law_caps_right G__law_caps_right hr (pa_cons (pv 3) (pa_cons (pv 4) pa_nil))))))))
            (pss_one (ps_ret pe_bl))
            pss_nil)
          (pss_cons (ps_set (i := 6) sc_law.nd rfl (Or.inl rfl) (pe_op op_add (pv 5) (pe_d d__law_tap G__law_tap hr (pa_cons (pv 2) (pa_cons (pe_op op_add (pe_op op_sub (pv 4) (pv 5)) pe_int) pa_nil)))))
          (pss_cons (ps_set (i := 7) sc_law.nd rfl (Or.inl rfl) (pe_op op_add (pv 4) (pe_d d__law_tap G__law_tap hr (pa_cons (pv 2) (pa_cons (pe_op op_powC pe_int pe_int) pa_nil)))))
          (pss_cons (ps_set (i := 8) sc_law.nd rfl (Or.inl rfl) (pe_lst (pa_cons (pe_ix ix_tup (pe_d d_run G_run hr (pa_cons (pv 3) (pa_cons (pv 4) (pa_cons (pv 5) pa_nil)))) pe_int (fun _ _ => rfl)) (pa_cons (pe_ix ix_tup (pe_d d_run G_run hr (pa_cons (pv 3) (pa_cons (pv 4) (pa_cons (pv 6) pa_nil)))) pe_int (fun _ _ => rfl)) (pa_cons (pe_ix ix_tup (pe_d d_run G_run hr (pa_cons (pv 3) (pa_cons (pv 7) (pa_cons (pv 6) pa_nil)))) pe_int (fun _ _ => rfl)) pa_nil)))))
          (pss_one (ps_for PassesOwn.never rfl (pi_list (pe_lst (pa_cons (pe_tup (pa_cons (pe_ix ix_list (pv 8) pe_int (fun _ _ => rfl)) (pa_cons (pe_ix ix_list (pv 8) pe_int (fun _ _ => rfl)) pa_nil))) (pa_cons (pe_tup (pa_cons (pe_ix ix_list (pv 8) pe_int (fun _ _ => rfl)) (pa_cons (pe_ix ix_list (pv 8) pe_int (fun _ _ => rfl)) pa_nil))) pa_nil)))) (pg_tup (by rfl) (pgs_cons (pg_name (i := 9) sc_law.nd rfl (Or.inl rfl)) (pgs_cons (pg_name (i := 10) sc_law.nd rfl (Or.inl rfl)) pgs_nil)))
            (pss_one (ps_if (pt_cmpR op_lt (pe_callB (cr_min rfl) (by rfl) B.min (by decide +kernel) (pa_cons (pe_d d__law_apart G__law_apart hr (pa_cons (pv 9) (pa_cons (pv 10) pa_nil))) pa_nil)) pe_int (nomark _))
                (pss_one (ps_ret pe_bl))
                pss_nil)))))))))))))
      (pss_one (ps_ret pe_bl))), ?_⟩
    have hl : (ns.map V.int).length = ns.length := List.length_map _
    refine ⟨_, rfl, a, _, rfl, .inl hS, 4, _, rfl, 1, _, rfl, _, rfl, ?_, ?_, for_range (lo := 0) (n := _) (fun i σ H3 => ∃ x1 x2 x3 x4 x5 x6 x7 x8 x9 x10 : Option V, σ = [some (.ref a), x1, x2, x3, x4, x5, x6, x7, x8, x9, x10] ∧ Ex [] H H3) ⟨_, _, _, _, _, _, _, _, _, _, rfl, Ex.refl _⟩ ?_ ?_⟩
    · split <;> split <;> omega
    · split <;> split <;> omega
    · rintro i σ H1 hi ⟨x1, x2, x3, x4, x5, x6, x7, x8, x9, x10, rfl, e1⟩
      have hi4 : i < 5 := by
        rw [hl] at hi
        split at hi <;> split at hi <;> omega
      have t1 := e1.tab T ht
      -- cask, flow
      refine ⟨_, rfl, _, rfl, a, ns, 0 + i, rfl, e1.seq nm hS, by omega, by omega, fun c H2 e2 nc k2 => ?_⟩
      refine ⟨_, rfl, (by show 2 ≤ sizeLine; decide), fun p hp => ?_⟩
      have ncp := k2.ne hp
      refine ⟨_, rfl, c, _, 2, rfl, k2.ex (Ex.new (C := []) hp) nm, by decide, by decide, by decide, fun r1 H3 a0 a1 e3 k3 => ?_⟩
      have hp3 : H3 p = some (.lst [V.int 8, V.int 100]) := e3.at upd_same (n1 ncp.symm)
      obtain ⟨most, hm, em⟩ := at2 (x := 8) (y := 100) a0 a1
      refine ⟨p, _, _, _, rfl, rfl, sq hp3, em, _, _, 100000000000, rfl, rfl, ⟨by decide, by decide, by decide⟩, by decide, ?_⟩
      refine ⟨c, _, most, 100000000000, rfl, k3, by omega, by omega, by omega, by decide, by decide, fun fl ds H4 e4 nfl k4 hf4 hlen4 hb4 => ?_⟩
      have nfc : fl ≠ c := by
        obtain ⟨xs, z⟩ := k3.some
        exact (ne_of_none z nfl).symm
      -- brim, here
      refine ⟨_, rfl, _, _, 100000000000, rfl, rfl, ⟨by decide, by decide, by decide⟩, by decide, c, _, 100000000000, rfl, k4, by omega, by decide, by decide, fun brim0 H5 b0 b1 e5 k5 => ?_⟩
      refine ⟨_, _, rfl, rfl, ?_⟩
      refine ⟨_, rfl, _, rfl, c, _, 1 + brim0, rfl, k5, by omega, by omega, by omega, fun here H6 h0 h1 e6 k6 => ?_⟩
      have hf6 : H6 fl = some (.lst (ds.map V.int)) := e6.at (e5.at hf4 (n1 nfc)) (n1 nfc)
      have e16 : Ex [c] H1 H6 := e2.up.trans ((Ex.new hp).trans (e3.trans (e4.trans (e5.trans e6))))
      have t6 := e16.tab T t1
      have hld : ds.length ≤ 200 := by omega
      -- _law_starts_right, _law_caps_right
      refine ⟨_, rfl, _, rfl, _, rfl, fl, ds, 1 + brim0, here, rfl, h0, h1, by omega, hf6, t6, fun H7 e7 => ⟨_, rfl, iteF ?_⟩⟩
      refine ⟨_, rfl, _, rfl, fl, ds, 1 + brim0, rfl, by omega, by omega, e7.lst hf6, e7.tab T t6, fun H8 e8 => ⟨_, rfl, iteF ?_⟩⟩
      have e78 := e7.trans e8
      have k8 : CaskAt H8 c _ := k6.ex e78 nm
      have hf8 := e78.lst hf6
      -- more, wide
      refine ⟨_, rfl, _, rfl, _, rfl, _, rfl, _, _, rfl, rfl, _, _, rfl, rfl, c, _, 1 + brim0 - here + 1, rfl, k8, by omega, by omega, by omega, fun r2 H9 r20 r21 e9 k9 => ?_⟩
      refine ⟨_, _, rfl, rfl, ?_⟩
      refine ⟨_, rfl, _, rfl, _, _, 100000000000, rfl, rfl, ⟨by decide, by decide, by decide⟩, by decide, c, _, 100000000000, rfl, k9, by omega, by decide, by decide, fun r3 HA r30 r31 eA kA => ?_⟩
      refine ⟨_, _, rfl, rfl, ?_⟩
      have hfA : HA fl = some (.lst (ds.map V.int)) := eA.at (e9.at hf8 (n1 nfc)) (n1 nfc)
      have e1A : Ex [c] H1 HA := e16.trans (e78.up.trans (e9.trans eA))
      have tA := e1A.tab T t1
      -- rows
      refine ⟨_, rfl, _, rfl, _, rfl, fl, ds, 1 + brim0, here, rfl, .inl hfA, by omega, h0, by omega, tA, fun HB tt ra rb re eB tB _ _ _ _ _ _ _ htt hra _ _ => ?_⟩
      refine ⟨tt, _, _, _, rfl, rfl, sqt htt, atI_nat (j := 0) rfl, ?_⟩
      refine ⟨_, rfl, _, rfl, _, rfl, fl, ds, 1 + brim0, here + r2, rfl, .inl (eB.lst hfA), by omega, by omega, by omega, tB, fun HC uu sa sb se eC tC' _ _ _ _ _ _ _ huu hsa _ _ => ?_⟩
      refine ⟨uu, _, _, _, rfl, rfl, sqt huu, atI_nat (j := 0) rfl, ?_⟩
      refine ⟨_, rfl, _, rfl, _, rfl, fl, ds, 1 + brim0 + r3, here + r2, rfl, .inl (eC.lst (eB.lst hfA)), by omega, by omega, by omega, tC', fun HD ww wa wb we eD tD _ _ _ _ _ _ _ hww hwa _ _ => ?_⟩
      refine ⟨ww, _, _, _, rfl, rfl, sqt hww, atI_nat (j := 0) rfl, ?_⟩
      refine ⟨(by show 3 ≤ sizeLine; decide), fun rw hrw => ?_⟩
      have aE := Ex.new (C := []) (o := .lst [V.ref ra, .ref sa, .ref wa]) hrw
      have hra1 := aE.lst (eD.lst (eC.lst hra))
      have hsa1 := aE.lst (eD.lst hsa)
      have hwa1 := aE.lst hwa
      have hrw1 : upd HD rw (.lst [V.ref ra, .ref sa, .ref wa]) rw = some (.lst [V.ref ra, .ref sa, .ref wa]) := upd_same
      have e1E := e1A.trans (eB.up.trans (eC.up.trans (eD.up.trans aE.up)))
      generalize upd HD rw (.lst [V.ref ra, .ref sa, .ref wa]) = HE at *
      -- [(rows[0], rows[1]), (rows[1], rows[2])]
      refine ⟨_, rfl, rw, _, _, _, rfl, rfl, sq hrw1, atI_nat (j := 0) rfl, _, rfl, rw, _, _, _, rfl, rfl, sq hrw1, atI_nat (j := 1) rfl, (by show 2 ≤ sizeLine; decide), fun u1 hu1 => ?_⟩
      have a1' := Ex.new (C := []) (o := .tup [V.ref ra, .ref sa]) hu1
      have hrw2 := a1'.lst hrw1
      refine ⟨_, rfl, rw, _, _, _, rfl, rfl, sq hrw2, atI_nat (j := 1) rfl, _, rfl, rw, _, _, _, rfl, rfl, sq hrw2, atI_nat (j := 2) rfl, (by show 2 ≤ sizeLine; decide), fun u2 hu2 => ?_⟩
      have a2' := Ex.new (C := []) (o := .tup [V.ref sa, .ref wa]) hu2
      refine ⟨(by show 2 ≤ sizeLine; decide), fun u3 hu3 => ?_⟩
      have a3' := Ex.new (C := []) (o := .lst [V.ref u1, .ref u2]) hu3
      have eEF := a1'.trans (a2'.trans a3')
      have hu1F := (a2'.trans a3').tup upd_same
      have hu2F := a3'.tup upd_same
      have hu3F : upd (upd (upd HE u1 (.tup [V.ref ra, .ref sa])) u2 (.tup [V.ref sa, .ref wa])) u3 (.lst [V.ref u1, .ref u2]) u3 = some (.lst [V.ref u1, .ref u2]) := upd_same
      have hraF := eEF.lst hra1
      have hsaF := eEF.lst hsa1
      have hwaF := eEF.lst hwa1
      generalize upd (upd (upd HE u1 (.tup [V.ref ra, .ref sa])) u2 (.tup [V.ref sa, .ref wa])) u3 (.lst [V.ref u1, .ref u2]) = HF at *
      refine ⟨_, rfl, ⟨_, sq hu3F⟩, for_list (K := K) (a := u3) (xs := [V.ref u1, .ref u2]) (fun i σ H3 => ∃ x1 x2 x3 x4 x5 x6 x7 x8 x9 x10 : Option V, σ = [some (.ref a), x1, x2, x3, x4, x5, x6, x7, x8, x9, x10] ∧ Ex [] HF H3) ⟨_, _, _, _, _, _, _, _, _, _, rfl, Ex.refl _⟩ (fun i σ H3 _ ⟨_, _, _, _, _, _, _, _, _, _, _, e3⟩ => e3.seq nm (sq hu3F)) ?_ ?_⟩
      · rintro i2 y σ H3 hi2 ⟨y1, y2, y3, y4, y5, y6, y7, y8, y9, y10, rfl, e3⟩
        have pick : ∃ (b1 b2 : Addr) (u : Addr) (xs ys : List Int), y = .ref u ∧ H3 u = some (.tup [.ref b1, .ref b2]) ∧ H3 b1 = some (.lst (xs.map V.int)) ∧ H3 b2 = some (.lst (ys.map V.int)) ∧ xs.length = ys.length ∧ xs.length ≤ 2000 ∧ 0 < xs.length ∧ ∀ z ∈ apart xs ys, 0 ≤ z := by
          rcases i2 with _ | _ | i2
          · have hy : V.ref u1 = y := Option.some.inj hi2
            subst hy
            refine ⟨ra, sa, u1, _, _, rfl, e3.tup hu1F, e3.lst hraF, e3.lst hsaF, ?_, ?_, ?_, ?_⟩
            · rw [inC_len, inC_len]
            · rw [inC_len]
              omega
            · rw [inC_len]
              omega
            · exact mono_run (Int.le_refl _) (by omega) ds here (here + r2) h0 (by omega)
          · have hy : V.ref u2 = y := Option.some.inj hi2
            subst hy
            refine ⟨sa, wa, u2, _, _, rfl, e3.tup hu2F, e3.lst hsaF, e3.lst hwaF, ?_, ?_, ?_, ?_⟩
            · rw [inC_len, inC_len]
            · rw [inC_len]
              omega
            · rw [inC_len]
              omega
            · exact mono_run (by omega) (by omega) ds (here + r2) (here + r2) (by omega) (Int.le_refl _)
          · simp at hi2
        obtain ⟨b1, b2, u, xs, ys, rfl, hu, hb1, hb2, lxy, lx, lp, hz⟩ := pick
        refine ⟨u, _, rfl, sqt hu, rfl, _, _, rfl, _, _, rfl, rfl, ?_⟩
        refine ⟨_, rfl, _, rfl, b1, b2, xs, ys, rfl, hb1, hb2, lxy, lx, fun p H4 e4 np hp4 => ?_⟩
        refine ⟨p, _, rfl, sq hp4, by rw [apart_len lxy]; exact lp, fun m hm hmin => ⟨_, _, rfl, rfl, _, rfl, ?_⟩⟩
        have m0 := hz m hm
        refine ite2 (fun y => absurd (of_decide_eq_true y) (by omega)) (fun _ => ?_)
        exact ⟨_, _, _, _, _, _, _, _, _, _, rfl, e3.trans e4⟩
      · rintro σ H3 ⟨y1, y2, y3, y4, y5, y6, y7, y8, y9, y10, rfl, e3⟩
        refine ⟨_, _, _, _, _, _, _, _, _, _, rfl, e1.trans (Ex.drop (C := [c]) (e1E.trans (eEF.up.trans e3.up)) fun x hx => by rw [List.mem_singleton.mp hx]; exact nc)⟩
    · rintro σ H3 ⟨x1, x2, x3, x4, x5, x6, x7, x8, x9, x10, rfl, e3⟩
      exact q H3
end
end Sp
end

section
set_option maxHeartbeats 4000000
namespace Sp
open PySem PySem.Spec PyProof.Rows L2
/-! ### what the top has written -/
theorem mk_law {l : PySem.W.OpenLaw} {q : Program} {w : World} {K : PySem.W.Frag} {h : Heap} {mg : Str → Option Value} {fa f_is_whole f_is_amount f_is_days f_need_days f_need_cap f_need_start f_need_tank f_day_done f_run f__law_cask f__law_tap f__law_days f__law_cap f__law_apart f__law_starts_right f__law_caps_right f_law c_is_days T_is_days : Addr} {oc_is_whole kV_is_whole dc_is_whole pm_is_whole cd_is_whole ct_is_whole oc_is_amount kV_is_amount dc_is_amount pm_is_amount cd_is_amount ct_is_amount oc_is_days kV_is_days dc_is_days pm_is_days  ct_is_days oc_need_days kV_need_days dc_need_days pm_need_days cd_need_days ct_need_days oc_need_cap kV_need_cap dc_need_cap pm_need_cap cd_need_cap ct_need_cap oc_need_start kV_need_start dc_need_start pm_need_start cd_need_start ct_need_start oc_need_tank kV_need_tank dc_need_tank pm_need_tank cd_need_tank ct_need_tank oc_day_done kV_day_done dc_day_done pm_day_done cd_day_done ct_day_done oc_run kV_run dc_run pm_run cd_run ct_run oc__law_cask kV__law_cask dc__law_cask pm__law_cask cd__law_cask ct__law_cask oc__law_tap kV__law_tap dc__law_tap pm__law_tap cd__law_tap ct__law_tap oc__law_days kV__law_days dc__law_days pm__law_days cd__law_days ct__law_days oc__law_cap kV__law_cap dc__law_cap pm__law_cap cd__law_cap ct__law_cap oc__law_apart kV__law_apart dc__law_apart pm__law_apart cd__law_apart ct__law_apart oc__law_starts_right kV__law_starts_right dc__law_starts_right pm__law_starts_right cd__law_starts_right ct__law_starts_right oc__law_caps_right kV__law_caps_right dc__law_caps_right pm__law_caps_right cd__law_caps_right ct__law_caps_right oc_law kV_law dc_law pm_law cd_law ct_law e_is_days : Value} {od_is_whole an_is_whole od_is_amount an_is_amount od_is_days an_is_days od_need_days an_need_days od_need_cap an_need_cap od_need_start an_need_start od_need_tank an_need_tank od_day_done an_day_done od_run an_run od__law_cask an__law_cask od__law_tap an__law_tap od__law_days an__law_days od__law_cap an__law_cap od__law_apart an__law_apart od__law_starts_right an__law_starts_right od__law_caps_right an__law_caps_right od_law an_law dd_is_days : Option Addr} {sl_is_whole sl_is_amount sl_is_days sl_need_days sl_need_cap sl_need_start sl_need_tank sl_day_done sl_run sl__law_cask sl__law_tap sl__law_days sl__law_cap sl__law_apart sl__law_starts_right sl__law_caps_right sl_law sk_is_days : Array (Option Value)} {vs_is_days : Array Value}
    (X : K.In h) (G : h.Ns mainGlobals mg) (hfa : mg "law" = some (.ref fa)) (TT : TabsOf q mg h)
    (a_is_whole : PySem.W.nsIn K mainGlobals "is_whole" = some (some (.ref f_is_whole)))
    (l_is_whole : K.lookup f_is_whole = some ⟨oc_is_whole, od_is_whole, .func (PySem.W.fnOf "is_whole" "is_whole" (defArgs s_is_whole) (defBody s_is_whole) (defScope s_is_whole) .none kV_is_whole dc_is_whole pm_is_whole an_is_whole cd_is_whole ct_is_whole), sl_is_whole⟩)
    (g_is_whole : PySem.W.codeIn K cd_is_whole "is_whole" = true)
    (k_is_whole : PySem.W.keepIn K (.ref f_is_whole) = true)
    (a_is_amount : PySem.W.nsIn K mainGlobals "is_amount" = some (some (.ref f_is_amount)))
    (l_is_amount : K.lookup f_is_amount = some ⟨oc_is_amount, od_is_amount, .func (PySem.W.fnOf "is_amount" "is_amount" (defArgs s_is_amount) (defBody s_is_amount) (defScope s_is_amount) .none kV_is_amount dc_is_amount pm_is_amount an_is_amount cd_is_amount ct_is_amount), sl_is_amount⟩)
    (g_is_amount : PySem.W.codeIn K cd_is_amount "is_amount" = true)
    (k_is_amount : PySem.W.keepIn K (.ref f_is_amount) = true)
    (a_is_days : PySem.W.nsIn K mainGlobals "is_days" = some (some (.ref f_is_days)))
    (l_is_days : K.lookup f_is_days = some ⟨oc_is_days, od_is_days, .func (PySem.W.fnOf "is_days" "is_days" (defArgs s_is_days) (defBody s_is_days) (defScope s_is_days) .none kV_is_days dc_is_days pm_is_days an_is_days (.ref c_is_days) ct_is_days), sl_is_days⟩)
    (g_is_days : PySem.W.codeIn K (.ref c_is_days) "is_days" = true)
    (k_is_days : PySem.W.keepIn K (.ref f_is_days) = true)
    (a_need_days : PySem.W.nsIn K mainGlobals "need_days" = some (some (.ref f_need_days)))
    (l_need_days : K.lookup f_need_days = some ⟨oc_need_days, od_need_days, .func (PySem.W.fnOf "need_days" "need_days" (defArgs s_need_days) (defBody s_need_days) (defScope s_need_days) .none kV_need_days dc_need_days pm_need_days an_need_days cd_need_days ct_need_days), sl_need_days⟩)
    (g_need_days : PySem.W.codeIn K cd_need_days "need_days" = true)
    (k_need_days : PySem.W.keepIn K (.ref f_need_days) = true)
    (a_need_cap : PySem.W.nsIn K mainGlobals "need_cap" = some (some (.ref f_need_cap)))
    (l_need_cap : K.lookup f_need_cap = some ⟨oc_need_cap, od_need_cap, .func (PySem.W.fnOf "need_cap" "need_cap" (defArgs s_need_cap) (defBody s_need_cap) (defScope s_need_cap) .none kV_need_cap dc_need_cap pm_need_cap an_need_cap cd_need_cap ct_need_cap), sl_need_cap⟩)
    (g_need_cap : PySem.W.codeIn K cd_need_cap "need_cap" = true)
    (k_need_cap : PySem.W.keepIn K (.ref f_need_cap) = true)
    (a_need_start : PySem.W.nsIn K mainGlobals "need_start" = some (some (.ref f_need_start)))
    (l_need_start : K.lookup f_need_start = some ⟨oc_need_start, od_need_start, .func (PySem.W.fnOf "need_start" "need_start" (defArgs s_need_start) (defBody s_need_start) (defScope s_need_start) .none kV_need_start dc_need_start pm_need_start an_need_start cd_need_start ct_need_start), sl_need_start⟩)
    (g_need_start : PySem.W.codeIn K cd_need_start "need_start" = true)
    (k_need_start : PySem.W.keepIn K (.ref f_need_start) = true)
    (a_need_tank : PySem.W.nsIn K mainGlobals "need_tank" = some (some (.ref f_need_tank)))
    (l_need_tank : K.lookup f_need_tank = some ⟨oc_need_tank, od_need_tank, .func (PySem.W.fnOf "need_tank" "need_tank" (defArgs s_need_tank) (defBody s_need_tank) (defScope s_need_tank) .none kV_need_tank dc_need_tank pm_need_tank an_need_tank cd_need_tank ct_need_tank), sl_need_tank⟩)
    (g_need_tank : PySem.W.codeIn K cd_need_tank "need_tank" = true)
    (k_need_tank : PySem.W.keepIn K (.ref f_need_tank) = true)
    (a_day_done : PySem.W.nsIn K mainGlobals "day_done" = some (some (.ref f_day_done)))
    (l_day_done : K.lookup f_day_done = some ⟨oc_day_done, od_day_done, .func (PySem.W.fnOf "day_done" "day_done" (defArgs s_day_done) (defBody s_day_done) (defScope s_day_done) .none kV_day_done dc_day_done pm_day_done an_day_done cd_day_done ct_day_done), sl_day_done⟩)
    (g_day_done : PySem.W.codeIn K cd_day_done "day_done" = true)
    (k_day_done : PySem.W.keepIn K (.ref f_day_done) = true)
    (a_run : PySem.W.nsIn K mainGlobals "run" = some (some (.ref f_run)))
    (l_run : K.lookup f_run = some ⟨oc_run, od_run, .func (PySem.W.fnOf "run" "run" (defArgs s_run) (defBody s_run) (defScope s_run) .none kV_run dc_run pm_run an_run cd_run ct_run), sl_run⟩)
    (g_run : PySem.W.codeIn K cd_run "run" = true)
    (k_run : PySem.W.keepIn K (.ref f_run) = true)
    (a__law_cask : PySem.W.nsIn K mainGlobals "_law_cask" = some (some (.ref f__law_cask)))
    (l__law_cask : K.lookup f__law_cask = some ⟨oc__law_cask, od__law_cask, .func (PySem.W.fnOf "_law_cask" "_law_cask" (defArgs s__law_cask) (defBody s__law_cask) (defScope s__law_cask) .none kV__law_cask dc__law_cask pm__law_cask an__law_cask cd__law_cask ct__law_cask), sl__law_cask⟩)
    (g__law_cask : PySem.W.codeIn K cd__law_cask "_law_cask" = true)
    (k__law_cask : PySem.W.keepIn K (.ref f__law_cask) = true)
    (a__law_tap : PySem.W.nsIn K mainGlobals "_law_tap" = some (some (.ref f__law_tap)))
    (l__law_tap : K.lookup f__law_tap = some ⟨oc__law_tap, od__law_tap, .func (PySem.W.fnOf "_law_tap" "_law_tap" (defArgs s__law_tap) (defBody s__law_tap) (defScope s__law_tap) .none kV__law_tap dc__law_tap pm__law_tap an__law_tap cd__law_tap ct__law_tap), sl__law_tap⟩)
    (g__law_tap : PySem.W.codeIn K cd__law_tap "_law_tap" = true)
    (k__law_tap : PySem.W.keepIn K (.ref f__law_tap) = true)
    (a__law_days : PySem.W.nsIn K mainGlobals "_law_days" = some (some (.ref f__law_days)))
    (l__law_days : K.lookup f__law_days = some ⟨oc__law_days, od__law_days, .func (PySem.W.fnOf "_law_days" "_law_days" (defArgs s__law_days) (defBody s__law_days) (defScope s__law_days) .none kV__law_days dc__law_days pm__law_days an__law_days cd__law_days ct__law_days), sl__law_days⟩)
    (g__law_days : PySem.W.codeIn K cd__law_days "_law_days" = true)
    (k__law_days : PySem.W.keepIn K (.ref f__law_days) = true)
    (a__law_cap : PySem.W.nsIn K mainGlobals "_law_cap" = some (some (.ref f__law_cap)))
    (l__law_cap : K.lookup f__law_cap = some ⟨oc__law_cap, od__law_cap, .func (PySem.W.fnOf "_law_cap" "_law_cap" (defArgs s__law_cap) (defBody s__law_cap) (defScope s__law_cap) .none kV__law_cap dc__law_cap pm__law_cap an__law_cap cd__law_cap ct__law_cap), sl__law_cap⟩)
    (g__law_cap : PySem.W.codeIn K cd__law_cap "_law_cap" = true)
    (k__law_cap : PySem.W.keepIn K (.ref f__law_cap) = true)
    (a__law_apart : PySem.W.nsIn K mainGlobals "_law_apart" = some (some (.ref f__law_apart)))
    (l__law_apart : K.lookup f__law_apart = some ⟨oc__law_apart, od__law_apart, .func (PySem.W.fnOf "_law_apart" "_law_apart" (defArgs s__law_apart) (defBody s__law_apart) (defScope s__law_apart) .none kV__law_apart dc__law_apart pm__law_apart an__law_apart cd__law_apart ct__law_apart), sl__law_apart⟩)
    (g__law_apart : PySem.W.codeIn K cd__law_apart "_law_apart" = true)
    (k__law_apart : PySem.W.keepIn K (.ref f__law_apart) = true)
    (a__law_starts_right : PySem.W.nsIn K mainGlobals "_law_starts_right" = some (some (.ref f__law_starts_right)))
    (l__law_starts_right : K.lookup f__law_starts_right = some ⟨oc__law_starts_right, od__law_starts_right, .func (PySem.W.fnOf "_law_starts_right" "_law_starts_right" (defArgs s__law_starts_right) (defBody s__law_starts_right) (defScope s__law_starts_right) .none kV__law_starts_right dc__law_starts_right pm__law_starts_right an__law_starts_right cd__law_starts_right ct__law_starts_right), sl__law_starts_right⟩)
    (g__law_starts_right : PySem.W.codeIn K cd__law_starts_right "_law_starts_right" = true)
    (k__law_starts_right : PySem.W.keepIn K (.ref f__law_starts_right) = true)
    (a__law_caps_right : PySem.W.nsIn K mainGlobals "_law_caps_right" = some (some (.ref f__law_caps_right)))
    (l__law_caps_right : K.lookup f__law_caps_right = some ⟨oc__law_caps_right, od__law_caps_right, .func (PySem.W.fnOf "_law_caps_right" "_law_caps_right" (defArgs s__law_caps_right) (defBody s__law_caps_right) (defScope s__law_caps_right) .none kV__law_caps_right dc__law_caps_right pm__law_caps_right an__law_caps_right cd__law_caps_right ct__law_caps_right), sl__law_caps_right⟩)
    (g__law_caps_right : PySem.W.codeIn K cd__law_caps_right "_law_caps_right" = true)
    (k__law_caps_right : PySem.W.keepIn K (.ref f__law_caps_right) = true)
    (a_law : PySem.W.nsIn K mainGlobals "law" = some (some (.ref f_law)))
    (l_law : K.lookup f_law = some ⟨oc_law, od_law, .func (PySem.W.fnOf "law" "law" (defArgs s_law) (defBody s_law) (defScope s_law) .none kV_law dc_law pm_law an_law cd_law ct_law), sl_law⟩)
    (g_law : PySem.W.codeIn K cd_law "law" = true)
    (k_law : PySem.W.keepIn K (.ref f_law) = true)
    (lc_is_days : K.lookup c_is_days = some ⟨e_is_days, dd_is_days, .fields vs_is_days, sk_is_days⟩)
    (lv_is_days : vs_is_days[11]? = some (.ref T_is_days))
    (nt_is_days : K.lookup T_is_days = none)
    (rc_is_days : ((recsOf q).any fun e => e.name == ("is_days" : Str)) = true)
    (z_isinstance : PySem.W.nsIn K mainGlobals "isinstance" = some none)
    (z_int : PySem.W.nsIn K mainGlobals "int" = some none)
    (z_bool : PySem.W.nsIn K mainGlobals "bool" = some none)
    (z_list : PySem.W.nsIn K mainGlobals "list" = some none)
    (z_all : PySem.W.nsIn K mainGlobals "all" = some none)
    (z_min : PySem.W.nsIn K mainGlobals "min" = some none)
    (z_max : PySem.W.nsIn K mainGlobals "max" = some none)
    (z_sum : PySem.W.nsIn K mainGlobals "sum" = some none)
    (z_len : PySem.W.nsIn K mainGlobals "len" = some none)
    (z_abs : PySem.W.nsIn K mainGlobals "abs" = some none)
    (z_range : PySem.W.nsIn K mainGlobals "range" = some none)
    (z_sorted : PySem.W.nsIn K mainGlobals "sorted" = some none)
    (z_enumerate : PySem.W.nsIn K mainGlobals "enumerate" = some none)
    (z_zip : PySem.W.nsIn K mainGlobals "zip" = some none)
    (z_tuple : PySem.W.nsIn K mainGlobals "tuple" = some none)
    (z_str : PySem.W.nsIn K mainGlobals "str" = some none)
    (z_repr : PySem.W.nsIn K mainGlobals "repr" = some none)
    (z_reversed : PySem.W.nsIn K mainGlobals "reversed" = some none)
    (z_dict : PySem.W.nsIn K mainGlobals "dict" = some none) :
    LamX.LawAtS l w K CX0 7 63 "script" mg fa h := by
  have zz : f_law = fa := by
    have z := (PySem.W.mg_of X G a_law).symm.trans hfa
    cases z
    rfl
  subst zz
  have B : Blt mg := ⟨PySem.W.mg_none_of X G z_isinstance, PySem.W.mg_none_of X G z_int, PySem.W.mg_none_of X G z_bool, PySem.W.mg_none_of X G z_list, PySem.W.mg_none_of X G z_all, PySem.W.mg_none_of X G z_min, PySem.W.mg_none_of X G z_max, PySem.W.mg_none_of X G z_sum, PySem.W.mg_none_of X G z_len, PySem.W.mg_none_of X G z_abs, PySem.W.mg_none_of X G z_range, PySem.W.mg_none_of X G z_sorted, PySem.W.mg_none_of X G z_enumerate, PySem.W.mg_none_of X G z_zip, PySem.W.mg_none_of X G z_tuple, PySem.W.mg_none_of X G z_str, PySem.W.mg_none_of X G z_repr, PySem.W.mg_none_of X G z_reversed, PySem.W.mg_none_of X G z_dict⟩
  have F_is_whole := fun_mk (st := s_is_whole) l_is_whole g_is_whole k_is_whole
  let d_is_whole : Df K mg "is_whole" s_is_whole ["thing"] := ⟨f_is_whole, _, F_is_whole, F_is_whole.binds (ps := ["thing"]) fun _ _ _ _ _ _ us hl => match us, hl with | [_], _ => rfl, PySem.W.mg_of X G a_is_whole⟩
  have F_is_amount := fun_mk (st := s_is_amount) l_is_amount g_is_amount k_is_amount
  let d_is_amount : Df K mg "is_amount" s_is_amount ["thing"] := ⟨f_is_amount, _, F_is_amount, F_is_amount.binds (ps := ["thing"]) fun _ _ _ _ _ _ us hl => match us, hl with | [_], _ => rfl, PySem.W.mg_of X G a_is_amount⟩
  have F_is_days := fun_mk (st := s_is_days) l_is_days g_is_days k_is_days
  let d_is_days : Df K mg "is_days" s_is_days ["thing"] := ⟨f_is_days, _, F_is_days, F_is_days.binds (ps := ["thing"]) fun _ _ _ _ _ _ us hl => match us, hl with | [_], _ => rfl, PySem.W.mg_of X G a_is_days⟩
  have F_need_days := fun_mk (st := s_need_days) l_need_days g_need_days k_need_days
  let d_need_days : Df K mg "need_days" s_need_days ["days"] := ⟨f_need_days, _, F_need_days, F_need_days.binds (ps := ["days"]) fun _ _ _ _ _ _ us hl => match us, hl with | [_], _ => rfl, PySem.W.mg_of X G a_need_days⟩
  have F_need_cap := fun_mk (st := s_need_cap) l_need_cap g_need_cap k_need_cap
  let d_need_cap : Df K mg "need_cap" s_need_cap ["cap"] := ⟨f_need_cap, _, F_need_cap, F_need_cap.binds (ps := ["cap"]) fun _ _ _ _ _ _ us hl => match us, hl with | [_], _ => rfl, PySem.W.mg_of X G a_need_cap⟩
  have F_need_start := fun_mk (st := s_need_start) l_need_start g_need_start k_need_start
  let d_need_start : Df K mg "need_start" s_need_start ["start", "cap"] := ⟨f_need_start, _, F_need_start, F_need_start.binds (ps := ["start", "cap"]) fun _ _ _ _ _ _ us hl => match us, hl with | [_, _], _ => rfl, PySem.W.mg_of X G a_need_start⟩
  have F_need_tank := fun_mk (st := s_need_tank) l_need_tank g_need_tank k_need_tank
  let d_need_tank : Df K mg "need_tank" s_need_tank ["days", "cap", "start"] := ⟨f_need_tank, _, F_need_tank, F_need_tank.binds (ps := ["days", "cap", "start"]) fun _ _ _ _ _ _ us hl => match us, hl with | [_, _, _], _ => rfl, PySem.W.mg_of X G a_need_tank⟩
  have F_day_done := fun_mk (st := s_day_done) l_day_done g_day_done k_day_done
  let d_day_done : Df K mg "day_done" s_day_done ["content", "day", "cap"] := ⟨f_day_done, _, F_day_done, F_day_done.binds (ps := ["content", "day", "cap"]) fun _ _ _ _ _ _ us hl => match us, hl with | [_, _, _], _ => rfl, PySem.W.mg_of X G a_day_done⟩
  have F_run := fun_mk (st := s_run) l_run g_run k_run
  let d_run : Df K mg "run" s_run ["days", "cap", "start"] := ⟨f_run, _, F_run, F_run.binds (ps := ["days", "cap", "start"]) fun _ _ _ _ _ _ us hl => match us, hl with | [_, _, _], _ => rfl, PySem.W.mg_of X G a_run⟩
  have F__law_cask := fun_mk (st := s__law_cask) l__law_cask g__law_cask k__law_cask
  let d__law_cask : Df K mg "_law_cask" s__law_cask ["script", "k"] := ⟨f__law_cask, _, F__law_cask, F__law_cask.binds (ps := ["script", "k"]) fun _ _ _ _ _ _ us hl => match us, hl with | [_, _], _ => rfl, PySem.W.mg_of X G a__law_cask⟩
  have F__law_tap := fun_mk (st := s__law_tap) l__law_tap g__law_tap k__law_tap
  let d__law_tap : Df K mg "_law_tap" s__law_tap ["cask", "wide"] := ⟨f__law_tap, _, F__law_tap, F__law_tap.binds (ps := ["cask", "wide"]) fun _ _ _ _ _ _ us hl => match us, hl with | [_, _], _ => rfl, PySem.W.mg_of X G a__law_tap⟩
  have F__law_days := fun_mk (st := s__law_days) l__law_days g__law_days k__law_days
  let d__law_days : Df K mg "_law_days" s__law_days ["cask", "most", "wide"] := ⟨f__law_days, _, F__law_days, F__law_days.binds (ps := ["cask", "most", "wide"]) fun _ _ _ _ _ _ us hl => match us, hl with | [_, _, _], _ => rfl, PySem.W.mg_of X G a__law_days⟩
  have F__law_cap := fun_mk (st := s__law_cap) l__law_cap g__law_cap k__law_cap
  let d__law_cap : Df K mg "_law_cap" s__law_cap ["cask", "wide"] := ⟨f__law_cap, _, F__law_cap, F__law_cap.binds (ps := ["cask", "wide"]) fun _ _ _ _ _ _ us hl => match us, hl with | [_, _], _ => rfl, PySem.W.mg_of X G a__law_cap⟩
  have F__law_apart := fun_mk (st := s__law_apart) l__law_apart g__law_apart k__law_apart
  let d__law_apart : Df K mg "_law_apart" s__law_apart ["one", "other"] := ⟨f__law_apart, _, F__law_apart, F__law_apart.binds (ps := ["one", "other"]) fun _ _ _ _ _ _ us hl => match us, hl with | [_, _], _ => rfl, PySem.W.mg_of X G a__law_apart⟩
  have F__law_starts_right := fun_mk (st := s__law_starts_right) l__law_starts_right g__law_starts_right k__law_starts_right
  let d__law_starts_right : Df K mg "_law_starts_right" s__law_starts_right ["flow", "brim", "here"] := ⟨f__law_starts_right, _, F__law_starts_right, F__law_starts_right.binds (ps := ["flow", "brim", "here"]) fun _ _ _ _ _ _ us hl => match us, hl with | [_, _, _], _ => rfl, PySem.W.mg_of X G a__law_starts_right⟩
  have F__law_caps_right := fun_mk (st := s__law_caps_right) l__law_caps_right g__law_caps_right k__law_caps_right
  let d__law_caps_right : Df K mg "_law_caps_right" s__law_caps_right ["flow", "brim"] := ⟨f__law_caps_right, _, F__law_caps_right, F__law_caps_right.binds (ps := ["flow", "brim"]) fun _ _ _ _ _ _ us hl => match us, hl with | [_, _], _ => rfl, PySem.W.mg_of X G a__law_caps_right⟩
  have F_law := fun_mk (st := s_law) l_law g_law k_law
  let d_law : Df K mg "law" s_law ["script"] := ⟨f_law, _, F_law, F_law.binds (ps := ["script"]) fun _ _ _ _ _ _ us hl => match us, hl with | [_], _ => rfl, PySem.W.mg_of X G a_law⟩
  have t_is_days := tab_of X TT rc_is_days (PySem.W.mg_of X G a_is_days) l_is_days rfl lc_is_days lv_is_days
  refine ⟨PySem.W.fnOf "law" "law" (defArgs s_law) (defBody s_law) (defScope s_law) .none kV_law dc_law pm_law an_law cd_law ct_law, [(c_is_days, T_is_days)], spLaw K T_is_days, fun p hp => by rw [List.mem_singleton.mp hp]; exact t_is_days.2, fun p hp => by rw [List.mem_singleton.mp hp]; exact nt_is_days, fun p hp => by rw [List.mem_singleton.mp hp]; exact t_is_days.1, fun s v => .of_eq rfl, fun H a ns hl hb hT hS => ⟨a, ns, rfl, hS, hl, hb, tabg0 (hT (c_is_days, T_is_days) (by simp)), fun _ => rfl⟩, fun base KB GB TB => ?_⟩
  have TB_is_days := tabB (TB (c_is_days, T_is_days) (by simp))
  have G_is_whole : FnOk l.prog w K mg base CX0 1 d_is_whole.f d_is_whole.fd ["thing"] spWhole := ok_whole d_is_whole B
  have G_is_amount : FnOk l.prog w K mg base CX0 2 d_is_amount.f d_is_amount.fd ["thing"] spAmt := ok_amount d_is_amount d_is_whole B
  have G_is_days := ok_days (P := l.prog) (w := w) d_is_whole B TB_is_days l_is_days g_is_days
  have G_need_days := ok_need_days (P := l.prog) (w := w) (base := base) (T := T_is_days) d_need_days d_is_days G_is_days
  have G_need_cap := ok_need_cap (P := l.prog) (w := w) (base := base) d_need_cap d_is_amount G_is_amount
  have G_need_start := ok_need_start (P := l.prog) (w := w) (base := base) d_need_start d_is_amount G_is_amount
  have G_day_done := ok_day_done (P := l.prog) (w := w) (base := base) d_day_done B
  have G_need_tank := ok_need_tank (P := l.prog) (w := w) (base := base) d_need_tank d_need_days d_need_cap d_need_start G_need_days G_need_cap G_need_start
  have G_run := ok_run d_run d_need_tank d_day_done G_need_tank G_day_done
  have G_cask := ok__law_cask (P := l.prog) (w := w) (base := base) d__law_cask B
  have G_tap := ok__law_tap (P := l.prog) (w := w) (base := base) d__law_tap B
  have G_days := ok__law_days d__law_days d__law_tap B G_tap
  have G_cap := ok__law_cap d__law_cap d__law_tap G_tap
  have G_apart := ok__law_apart (P := l.prog) (w := w) (base := base) d__law_apart B
  have G_starts := ok__law_starts_right d__law_starts_right d__law_apart d_run B G_apart G_run
  have G_caps := ok__law_caps_right d__law_caps_right d__law_apart d_run B G_apart G_run
  exact ok_law d_law d__law_cask d__law_tap d__law_days d__law_cap d__law_apart d__law_starts_right d__law_caps_right d_run B G_cask G_tap G_days G_cap G_run G_apart G_starts G_caps
end Sp
open PySem PySem.W PyProof.Rows
set_option maxRecDepth 100000 in
set_option maxHeartbeats 0 in
theorem PySem.Challenge.cw_spillmirror_k05_whole_one_unit_more_holds : PySem.Challenge.rw_spillmirror_k05_whole_one_unit_more.Holds := by
  w_on; o_law; k_head; (case hw => w_witness2)
  k_fill
  refine Sp.walk_tabs (l := PySem.Challenge.rw_spillmirror_k05_whole_one_unit_more) (n := 63) (k := 7) (x := "script") (CX := fun _ => L2.CX0) rfl (by decide) rfl ⟨rfl, by decide, by decide⟩ (fun w h Y => PySem.W.kIn_of Y) ?F (fun _ _ _ _ _ z => z)
  case F =>
    intro w mg fa h KX G hmg TT
    refine' Sp.mk_law KX G hmg TT ?a_is_whole ?l_is_whole ?g_is_whole ?k_is_whole ?a_is_amount ?l_is_amount ?g_is_amount ?k_is_amount ?a_is_days ?l_is_days ?g_is_days ?k_is_days ?a_need_days ?l_need_days ?g_need_days ?k_need_days ?a_need_cap ?l_need_cap ?g_need_cap ?k_need_cap ?a_need_start ?l_need_start ?g_need_start ?k_need_start ?a_need_tank ?l_need_tank ?g_need_tank ?k_need_tank ?a_day_done ?l_day_done ?g_day_done ?k_day_done ?a_run ?l_run ?g_run ?k_run ?a__law_cask ?l__law_cask ?g__law_cask ?k__law_cask ?a__law_tap ?l__law_tap ?g__law_tap ?k__law_tap ?a__law_days ?l__law_days ?g__law_days ?k__law_days ?a__law_cap ?l__law_cap ?g__law_cap ?k__law_cap ?a__law_apart ?l__law_apart ?g__law_apart ?k__law_apart ?a__law_starts_right ?l__law_starts_right ?g__law_starts_right ?k__law_starts_right ?a__law_caps_right ?l__law_caps_right ?g__law_caps_right ?k__law_caps_right ?a_law ?l_law ?g_law ?k_law ?lc_is_days ?lv_is_days ?nt_is_days ?rc_is_days ?z_isinstance ?z_int ?z_bool ?z_list ?z_all ?z_min ?z_max ?z_sum ?z_len ?z_abs ?z_range ?z_sorted ?z_enumerate ?z_zip ?z_tuple ?z_str ?z_repr ?z_reversed ?z_dict
    (case a_is_whole => k_is)
    (case l_is_whole => k_is)
    (case g_is_whole => k_is)
    (case k_is_whole => k_is)
    (case a_is_amount => k_is)
    (case l_is_amount => k_is)
    (case g_is_amount => k_is)
    (case k_is_amount => k_is)
    (case a_is_days => k_is)
    (case l_is_days => k_is)
    (case g_is_days => k_is)
    (case k_is_days => k_is)
    (case a_need_days => k_is)
    (case l_need_days => k_is)
    (case g_need_days => k_is)
    (case k_need_days => k_is)
    (case a_need_cap => k_is)
    (case l_need_cap => k_is)
    (case g_need_cap => k_is)
    (case k_need_cap => k_is)
    (case a_need_start => k_is)
    (case l_need_start => k_is)
    (case g_need_start => k_is)
    (case k_need_start => k_is)
    (case a_need_tank => k_is)
    (case l_need_tank => k_is)
    (case g_need_tank => k_is)
    (case k_need_tank => k_is)
    (case a_day_done => k_is)
    (case l_day_done => k_is)
    (case g_day_done => k_is)
    (case k_day_done => k_is)
    (case a_run => k_is)
    (case l_run => k_is)
    (case g_run => k_is)
    (case k_run => k_is)
    (case a__law_cask => k_is)
    (case l__law_cask => k_is)
    (case g__law_cask => k_is)
    (case k__law_cask => k_is)
    (case a__law_tap => k_is)
    (case l__law_tap => k_is)
    (case g__law_tap => k_is)
    (case k__law_tap => k_is)
    (case a__law_days => k_is)
    (case l__law_days => k_is)
    (case g__law_days => k_is)
    (case k__law_days => k_is)
    (case a__law_cap => k_is)
    (case l__law_cap => k_is)
    (case g__law_cap => k_is)
    (case k__law_cap => k_is)
    (case a__law_apart => k_is)
    (case l__law_apart => k_is)
    (case g__law_apart => k_is)
    (case k__law_apart => k_is)
    (case a__law_starts_right => k_is)
    (case l__law_starts_right => k_is)
    (case g__law_starts_right => k_is)
    (case k__law_starts_right => k_is)
    (case a__law_caps_right => k_is)
    (case l__law_caps_right => k_is)
    (case g__law_caps_right => k_is)
    (case k__law_caps_right => k_is)
    (case a_law => k_is)
    (case l_law => k_is)
    (case g_law => k_is)
    (case k_law => k_is)
    (case lc_is_days => k_is)
    (case lv_is_days => rfl)
    (case nt_is_days => rfl)
    (case rc_is_days => decide +kernel)
    (case z_isinstance => k_is)
    (case z_int => k_is)
    (case z_bool => k_is)
    (case z_list => k_is)
    (case z_all => k_is)
    (case z_min => k_is)
    (case z_max => k_is)
    (case z_sum => k_is)
    (case z_len => k_is)
    (case z_abs => k_is)
    (case z_range => k_is)
    (case z_sorted => k_is)
    (case z_enumerate => k_is)
    (case z_zip => k_is)
    (case z_tuple => k_is)
    (case z_str => k_is)
    (case z_repr => k_is)
    (case z_reversed => k_is)
    (case z_dict => k_is)
#print axioms PySem.Challenge.cw_spillmirror_k05_whole_one_unit_more_holds
end
